import PyProof.Rows.All
import Wide.All
import OpenK.AllK
import Wide.FinOn
import Lean
import PyProof.EqAt
import PyProof.EqKinds
import PyProof.TupleCall
import PyProof.NeKinds
import PyProof.StrLawsIn
import PyProof.Draws
import PyProof.ZipIter
import PyProof.EnumMake
import PyProof.EnumFor
import KE.KRevIter
import PyProof.CollectWalk
import KE.KItemsList
import PyProof.AttrMissSeq
import PyProof.WalksMore
import KE.KDictOf
import KE.KSortTup
import KE.KDictList
import PyProof.DictIter
import PyProof.DictWalks
import KE.KEqDict
import PyProof.Rows.StrGen4
import PyProof.StrBlockI
import PySem.Challenge.RW_webstore_k06_whole_tests_together
-- CHANGE: your row's module here, as the last of these rows
set_option Elab.async false
set_option linter.all false
set_option maxRecDepth 100000
namespace L2
open PySem PySem.Spec PyProof.Rows
abbrev Key := Sum Int Str
def keyIs : Key → Value → Bool
  | .inl k, v => Value.isInt k v
  | .inr x, v => Value.isStrOf x v
def keyH (w : World) : Key → Int
  | .inl k => hashInt k
  | .inr x => hashStr w x
theorem keyIs_shape : ∀ {k : Key} {v : Value}, keyIs k v = true → (∃ i t, k = Sum.inl i ∧ v = Value.int i t) ∨ (∃ x t, k = Sum.inr x ∧ v = Value.str x t)
  | .inl i, v, h => by
    obtain ⟨t, e⟩ := Value.isInt_shape (k := i) (v := v) h
    exact .inl ⟨i, t, rfl, e⟩
  | .inr x, v, h => by
    obtain ⟨t, e⟩ := Value.isStrOf_shape (x := x) (v := v) h
    exact .inr ⟨x, t, rfl, e⟩
theorem keyIs_int (i : Int) (t : Tok) : keyIs (.inl i) (.int i t) = true := by simp [keyIs, Value.isInt]
theorem keyIs_str (x : Str) (t : Tok) : keyIs (.inr x) (.str x t) = true := by simp [keyIs, Value.isStrOf]
theorem key_ll (a b : Int) : decide ((Sum.inl a : Key) = Sum.inl b) = (a == b) := by
  by_cases e : a = b
  · subst e; simp
  · have h : ¬ (Sum.inl a : Key) = Sum.inl b := fun q => e (Sum.inl.inj q)
    rw [decide_eq_false h]
    exact (beq_eq_false_iff_ne.mpr e).symm
theorem key_rr (a b : Str) : decide ((Sum.inr a : Key) = Sum.inr b) = decide (a = b) := by
  by_cases e : a = b
  · subst e; simp
  · have h : ¬ (Sum.inr a : Key) = Sum.inr b := fun q => e (Sum.inr.inj q)
    rw [decide_eq_false h, decide_eq_false e]
theorem key_lr (a : Int) (b : Str) : decide ((Sum.inl a : Key) = Sum.inr b) = false := decide_eq_false (fun q => nomatch q)
theorem key_rl (a : Str) (b : Int) : decide ((Sum.inr a : Key) = Sum.inl b) = false := decide_eq_false (fun q => nomatch q)

def mixKind (prog : Program) (w : World) : PySem.KeyKind prog w Key where
  is := keyIs
  hash := keyH w
  inj := fun v a b ha hb => by
    rcases keyIs_shape ha with ⟨i, t, rfl, rfl⟩ | ⟨x, t, rfl, rfl⟩
    · rcases keyIs_shape hb with ⟨j, u, rfl, e⟩ | ⟨y, u, rfl, e⟩
      · injection e with e1 _; rw [e1]
      · exact nomatch e
    · rcases keyIs_shape hb with ⟨j, u, rfl, e⟩ | ⟨y, u, rfl, e⟩
      · exact nomatch e
      · injection e with e1 _; rw [e1]
  byValue := fun k v h => by
    rcases keyIs_shape h with ⟨i, t, rfl, rfl⟩ | ⟨x, t, rfl, rfl⟩ <;> rfl
  pyHash := fun hv h => by
    rcases keyIs_shape hv with ⟨i, t, rfl, rfl⟩ | ⟨x, t, rfl, rfl⟩
    · exact wpAny_pyHash_int h
    · exact wpAny_pyHash_str h
  eqBool := fun hu hv h => by
    rcases keyIs_shape hu with ⟨i, t, rfl, rfl⟩ | ⟨x, t, rfl, rfl⟩
    · rcases keyIs_shape hv with ⟨j, u, rfl, rfl⟩ | ⟨y, u, rfl, rfl⟩
      · rw [key_ll] at h; exact wpAny_eqBool_int h
      · rw [key_lr] at h; exact SeqAt.EqAt.int_str i t y u _ _ _ _ h
    · rcases keyIs_shape hv with ⟨j, u, rfl, rfl⟩ | ⟨y, u, rfl, rfl⟩
      · rw [key_rl] at h; exact SeqAt.EqAt.str_int x t j u _ _ _ _ h
      · rw [key_rr] at h; exact wpAny_eqBool_str h
  «strs» := fun k x t v h => by
    rcases keyIs_shape h with ⟨i, u, rfl, e⟩ | ⟨y, u, rfl, e⟩
    · exact nomatch e
    · injection e with e1 _
      subst e1
      cases v <;> rfl

theorem mixKind_int (prog : Program) (w : World) (i : Int) (t : Tok) : (mixKind prog w).is (.inl i) (.int i t) = true := keyIs_int i t
theorem mixKind_str (prog : Program) (w : World) (x : Str) (t : Tok) : (mixKind prog w).is (.inr x) (.str x t) = true := keyIs_str x t
end L2
namespace L2
open PySem PySem.Spec PyProof.Rows
inductive V where
  | non | bl (b : Bool) | int (i : Int) | str (x : Str) | byt (b : Array UInt8) | flt (b : UInt64) | ref (a : Addr) | ty (n : String)
  deriving DecidableEq

def RelV : V → Value → Prop
  | .non, u => u = Value.none
  | .bl b, u => u = Value.bool b
  | .int i, u => ∃ t, u = Value.int i t
  | .str x, u => ∃ t, u = Value.str x t
  | .byt b, u => ∃ t, u = Value.bytes b t
  | .flt b, u => ∃ t, u = Value.float b t
  | .ref a, u => u = Value.ref a
  | .ty n, u => u = Value.type n

abbrev Vals : List V → List Value → Prop := Paired RelV
theorem Vals.length {xs : List V} {us : List Value} (r : Vals xs us) : xs.length = us.length := Paired.length r
theorem Vals.get : ∀ {xs : List V} {us : List Value} {i : Nat} {x : V}, Vals xs us → xs[i]? = some x → ∃ u, us[i]? = some u ∧ RelV x u
  | _, _, _, _, .nil, e => by simp at e
  | _, _, 0, _, .cons r _, e => by simp at e; subst e; exact ⟨_, rfl, r⟩
  | _, _, i + 1, x, .cons _ t, e => by
    obtain ⟨u, h1, h2⟩ := Vals.get (i := i) (x := x) t (by simpa using e)
    exact ⟨u, by simpa using h1, h2⟩
theorem Vals.set {x : V} {u : Value} (r : RelV x u) : ∀ {xs : List V} {us : List Value} (i : Nat), Vals xs us → Vals (xs.set i x) (us.set i u)
  | _, _, _, .nil => .nil
  | _, _, 0, .cons _ t => .cons r t
  | _, _, i + 1, .cons q t => .cons q (Vals.set r i t)
theorem Vals.append : ∀ {xs ys : List V} {us ws : List Value}, Vals xs us → Vals ys ws → Vals (xs ++ ys) (us ++ ws)
  | _, _, _, _, .nil, s => s
  | _, _, _, _, .cons r t, s => .cons r (Vals.append t s)
theorem Vals.take : ∀ {xs : List V} {us : List Value} (n : Nat), Vals xs us → Vals (xs.take n) (us.take n)
  | _, _, 0, _ => .nil
  | _, _, _ + 1, .nil => .nil
  | _, _, n + 1, .cons r t => .cons r (Vals.take n t)
theorem Vals.drop : ∀ {xs : List V} {us : List Value} (n : Nat), Vals xs us → Vals (xs.drop n) (us.drop n)
  | _, _, 0, r => r
  | _, _, _ + 1, .nil => .nil
  | _, _, n + 1, .cons _ t => Vals.drop n t
def RelO : Option V → Option Value → Prop
  | some v, some u => RelV v u
  | none, none => True
  | _, _ => False
def KV {κ : Type} : List (κ × V) → List (κ × Value) → Prop := Paired fun (p : κ × V) (q : κ × Value) => p.1 = q.1 ∧ RelV p.2 q.2

def kV : Key → V
  | .inl i => .int i
  | .inr x => .str x

def TupC (o : Obj) : Prop := o.cls = .type "tuple" ∧ o.dict = none
def IsTupX (h : Heap) (a : Addr) (items : Array Value) : Prop := ∃ o, h.get? a = some o ∧ TupC o ∧ ∃ n, o.data = .seq items n
theorem IsTupX.tup {h : Heap} {a : Addr} {items : Array Value} (x : IsTupX h a items) : IsTup h a items := let ⟨o, h1, h2, h3⟩ := x; ⟨o, h1, h2.1, h3⟩
theorem IsTupX.lt {h : Heap} {a : Addr} {items : Array Value} (x : IsTupX h a items) : a < h.objs.size := x.tup.lt
theorem IsTupX.new (h : Heap) (items : Array Value) : IsTupX (h.push { cls := .type "tuple", data := .seq items }) h.objs.size items := ⟨_, Heap.get?_push_size _ rfl, ⟨rfl, rfl⟩, _, rfl⟩
inductive HO where
  /-- a list -/
  | lst (xs : List V)
  /-- a tuple (never changes) -/
  | tup (xs : List V)
  /-- a dict whose keys are ints and texts; one whose keys are tuples of ints and texts (the empty one is both) -/
  | dK (kvs : List (Key × V)) | dT (kvs : List (List Key × V))
  /-- a set of ints: its members, its size -/
  | set (S : Int → Bool) (n : Nat)
  /-- an instance of the class at C, its dict at dx, its attributes -/
  | ins (C dx : Addr) (fs : List (Str × V))
  /-- the dict of the instance at x -/
  | own (x : Addr)
  /-- the dict of an exception -/
  | xd (fs : List (Str × V))
  /-- a bound method, f of x -/
  | met (f x : Addr)
  /-- a range object lo, lo + 1, .. below hi -/
  | rng (lo hi : Int)
  /-- a thing that is known to the object (the script; a dict while a loop walks it): read, never written while it is so -/
  | frz (o : Obj) (u : HO)
  /-- a code object's table -/
  | tbl (ps : Array Value)
  /-- any other thing, by what is true of its one object (a def of one's own: SetO a S n := HO.ext fun h => ..) -/
  | ext (φ : Heap → Prop)

abbrev Hp := Addr → Option HO
def upd (H : Hp) (a : Addr) (o : HO) : Hp := fun b => if b = a then some o else H b
theorem upd_same {H : Hp} {a : Addr} {o : HO} : upd H a o a = some o := by unfold upd; rw [if_pos rfl]
theorem upd_ne {H : Hp} {a b : Addr} {o : HO} (h : b ≠ a) : upd H a o b = H b := by unfold upd; rw [if_neg h]
theorem ne_of {H : Hp} {a b : Addr} {o u : HO} (h : H a = some o) (h' : H b = some u) (d : o ≠ u) : a ≠ b := by
  intro e; subst e; rw [h] at h'; exact d (Option.some.inj h')
theorem ne_of_none {H : Hp} {a b : Addr} {o : HO} (h : H a = some o) (h' : H b = none) : a ≠ b := by
  intro e; subst e; rw [h] at h'; cases h'

section
variable (P : Program) (w : World)
def ObjOk (H : Hp) (h : Heap) (a : Addr) : HO → Prop
  | .lst xs => xs.length ≤ sizeLine ∧ ∃ (its : List Value) (n : Nat), Vals xs its ∧ h.get? a = some { cls := .type "list", data := .seq its.toArray n }
  | .tup xs => xs.length ≤ sizeLine ∧ ∃ its : List Value, Vals xs its ∧ IsTupX h a its.toArray
  | .dK kvs => kvs.length ≤ sizeLine ∧ (a == sysModules) = false ∧ ∃ vs, KV kvs vs ∧ h.DictOf (mixKind P w) a vs
  | .dT kvs => kvs.length ≤ sizeLine ∧ (a == sysModules) = false ∧ ∃ xs : List (List Key × Addr × Value),
      Paired (fun (p : List Key × V) (q : List Key × Addr × Value) => p.1 = q.1 ∧ H q.2.1 = some (.tup (p.1.map kV)) ∧ RelV p.2 q.2.2) kvs xs ∧
      ∃ o es ep, h.get? a = some o ∧ o.ExactDict ∧ o.data = .dict es ep ∧ es.toList = xs.map (entryOfKey (tupleKind (mixKind P w))) ∧ (xs.map (·.1)).Nodup
  | .set S n => h.SetOf (intKind P w) a S n
  | .ins C dx fs => H dx = some (.own a) ∧ fs.length ≤ 1000 ∧ dx ≠ a ∧ h.get? a = some (PySem.W.instObj C dx) ∧
      ∃ mA, h.Ns1 dx mA ∧ (∀ f, RelO (fs.lookup f) (mA f)) ∧ PySem.Within mA (fs.map (·.1))
  | .own _ => ∃ o, h.get? a = some o
  | .xd fs => ∃ mA, h.Ns1 a mA ∧ ∀ f, RelO (fs.lookup f) (mA f)
  | .rng lo hi => ∃ t u v, h.get? a = some { cls := .type "range", data := .fields #[.int lo t, .int hi u, .int 1 v] }
  | .frz o u => h.get? a = some o ∧ ObjOk H h a u
  | .tbl ps => h.get? a = some { cls := .none, data := .fields ps }
  | .met f x => h.get? a = some (PySem.W.methodObj (.ref f) (.ref x))
  | .ext φ => φ h ∧ (∃ o, h.get? a = some o) ∧ ∀ h1 h2 : Heap, φ h1 → (∀ o, h1.get? a = some o → h2.get? a = some o) → φ h2
def HOk (H : Hp) (h : Heap) : Prop := ∀ a o, H a = some o → ObjOk P w H h a o
end
section
variable {P : Program} {w : World} {H H' : Hp} {h h' : Heap} {a : Addr} {o : HO}
theorem ObjOk.lt (x : ObjOk P w H h a o) : a < h.objs.size := by
  cases o with
  | lst xs => obtain ⟨_, _, _, _, e⟩ := x; exact Heap.lt_size e
  | tup xs => obtain ⟨_, _, _, p⟩ := x; exact p.lt
  | dK kvs => obtain ⟨_, _, _, _, o, _, _, e, _⟩ := x; exact Heap.lt_size e
  | dT kvs => obtain ⟨_, _, _, _, o, _, _, e, _⟩ := x; exact Heap.lt_size e
  | set S n => obtain ⟨o, _, _, _, e, _⟩ := x; exact Heap.lt_size e
  | ins C dx fs => obtain ⟨_, _, _, e, _⟩ := x; exact Heap.lt_size e
  | own y => obtain ⟨_, e⟩ := x; exact Heap.lt_size e
  | xd fs => obtain ⟨_, ⟨_, _, _, e, _⟩, _⟩ := x; exact Heap.lt_size e
  | rng lo hi => obtain ⟨_, _, _, e⟩ := x; exact Heap.lt_size e
  | frz ob u => obtain ⟨e, _⟩ := x; exact Heap.lt_size e
  | tbl ps => exact Heap.lt_size (show h.get? a = some _ from x)
  | met f y => exact Heap.lt_size (show h.get? a = some _ from x)
  | ext φ => obtain ⟨_, ⟨_, e⟩, _⟩ := x; exact Heap.lt_size e
theorem Paired.mapP {α β : Type} {F G : α → β → Prop} : ∀ {l₁ : List α} {l₂ : List β}, Paired F l₁ l₂ → (∀ a b, F a b → G a b) → Paired G l₁ l₂
  | _, _, .nil, _ => .nil
  | _, _, .cons r t, f => .cons (f _ _ r) (Paired.mapP t f)
theorem ObjOk.stay (x : ObjOk P w H h a o) (k : ∀ b u, (b = a ∨ H b = some (.own a)) → h.get? b = some u → h'.get? b = some u)
    (ho : ∀ b, H b = some (.own a) → H' b = some (.own a)) (ht : ∀ b xs, H b = some (.tup xs) → H' b = some (.tup xs)) : ObjOk P w H' h' a o := by
  induction o with
  | lst xs => obtain ⟨z, its, n, r, e⟩ := x; exact ⟨z, its, n, r, k _ _ (.inl rfl) e⟩
  | tup xs => obtain ⟨z, its, r, ob, e, c⟩ := x; exact ⟨z, its, r, ob, k _ _ (.inl rfl) e, c⟩
  | dK kvs => obtain ⟨z, y, vs, r, ob, es, ep, e, c⟩ := x; exact ⟨z, y, vs, r, ob, es, ep, k _ _ (.inl rfl) e, c⟩
  | dT kvs =>
    obtain ⟨z, y, xs, r, ob, es, ep, e, c⟩ := x
    exact ⟨z, y, xs, Paired.mapP r fun p q z => ⟨z.1, ht _ _ z.2.1, z.2.2⟩, ob, es, ep, k _ _ (.inl rfl) e, c⟩
  | set S n => obtain ⟨ob, es, ep, t, e, c⟩ := x; exact ⟨ob, es, ep, t, k _ _ (.inl rfl) e, c⟩
  | ins C dx fs =>
    obtain ⟨d, z, ne, e, mA, ⟨od, es, ep, e2, c⟩, r⟩ := x
    exact ⟨ho _ d, z, ne, k _ _ (.inl rfl) e, mA, ⟨od, es, ep, k _ _ (.inr d) e2, c⟩, r⟩
  | own y => obtain ⟨ob, e⟩ := x; exact ⟨ob, k _ _ (.inl rfl) e⟩
  | xd fs => obtain ⟨mA, ⟨od, es, ep, e, c⟩, r⟩ := x; exact ⟨mA, ⟨od, es, ep, k _ _ (.inl rfl) e, c⟩, r⟩
  | rng lo hi => obtain ⟨t, u, v, e⟩ := x; exact ⟨t, u, v, k _ _ (.inl rfl) e⟩
  | frz ob u ih => obtain ⟨e, q⟩ := x; exact ⟨k _ _ (.inl rfl) e, ih q⟩
  | tbl ps =>
    have e : h.get? a = some { cls := .none, data := .fields ps } := x
    show h'.get? a = some { cls := .none, data := .fields ps }
    exact k a _ (.inl rfl) e
  | met f y =>
    have e : h.get? a = some (PySem.W.methodObj (.ref f) (.ref y)) := x
    show h'.get? a = some (PySem.W.methodObj (.ref f) (.ref y))
    exact k a _ (.inl rfl) e
  | ext φ => obtain ⟨p, ⟨o, e⟩, st⟩ := x; exact ⟨st _ _ p fun o q => k _ _ (.inl rfl) q, ⟨o, k _ _ (.inl rfl) e⟩, st⟩
theorem HOk.lt (x : HOk P w H h) (e : H a = some o) : a < h.objs.size := (x a o e).lt
theorem HOk.fresh (x : HOk P w H h) (e : h.objs.size ≤ a) : H a = none := by
  cases q : H a with
  | none => rfl
  | some u => exact absurd (Nat.lt_of_lt_of_le (x.lt q) e) (Nat.lt_irrefl _)
theorem HOk.kept (x : HOk P w H h) (k : ∀ b u, h.get? b = some u → h'.get? b = some u) : HOk P w H h' := fun a o e =>
  (x a o e).stay (fun b u _ q => k b u q) (fun _ q => q) fun _ _ q => q
theorem HOk.laid (x : HOk P w H h) (k : ∀ b u, h.get? b = some u → h'.get? b = some u) (hp : h.objs.size ≤ a) (new : ObjOk P w (upd H a o) h' a o) : HOk P w (upd H a o) h' := fun b u e => by
  have hn := x.fresh hp
  by_cases hb : b = a
  · subst hb; rw [upd_same] at e; cases e; exact new
  · rw [upd_ne hb] at e
    exact (x b u e).stay (fun c v _ q => k c v q) (fun c q => by rw [upd_ne (ne_of_none q hn)]; exact q) fun c xs q => by rw [upd_ne (ne_of_none q hn)]; exact q
end
def Rd (H : Hp) (a : Addr) (u : HO) : Prop := H a = some u ∨ ∃ o, H a = some (.frz o u)
theorem Rd.ok {P : Program} {w : World} {H : Hp} {h : Heap} {a : Addr} {u : HO} (r : Rd H a u) (x : HOk P w H h) : ObjOk P w H h a u := by
  rcases r with r | ⟨o, r⟩
  · exact x a u r
  · obtain ⟨_, q⟩ := x a _ r
    exact q
def Mut : Option HO → Prop
  | some (.lst _) => True
  | some (.dK _) => True
  | some (.dT _) => True
  | some (.set _ _) => True
  | some (.ins _ _ _) => True
  | some (.ext _) => True
  | _ => False
section
variable {P : Program} {w : World} {H : Hp} {h h' : Heap} {x e : Addr} {o' : HO}
theorem HOk.write (ok : HOk P w H h) (mu : Mut (H x)) (he : e = x ∨ H e = some (.own x)) (k : ∀ b u, b ≠ e → h.get? b = some u → h'.get? b = some u) (heo : ∃ u, h'.get? e = some u)
    (new : ObjOk P w (upd H x o') h' x o') : HOk P w (upd H x o') h' := fun b u q => by
  have nown : ∀ c y, H c = some (.own y) → c ≠ x := fun c y r z => by subst z; rw [r] at mu; exact mu
  have ntup : ∀ c xs, H c = some (.tup xs) → c ≠ x := fun c xs r z => by subst z; rw [r] at mu; exact mu
  by_cases hb : b = x
  · subst hb; rw [upd_same] at q; cases q; exact new
  · rw [upd_ne hb] at q
    by_cases hbe : b = e
    · have q' : H b = some (.own x) := by
        rcases he with z | z
        · exact absurd (hbe.trans z) hb
        · rw [hbe]; exact z
      rw [q] at q'; cases q'
      obtain ⟨v, hv⟩ := heo
      exact ⟨v, by rw [hbe]; exact hv⟩
    · refine (ok b u q).stay (fun c v hc r => k c v ?_ r) (fun c r => by rw [upd_ne (nown c b r)]; exact r) fun c xs r => by rw [upd_ne (ntup c xs r)]; exact r
      rcases hc with rfl | hc
      · exact hbe
      · rintro rfl
        rcases he with z | z
        · exact nown c b hc z
        · rw [hc] at z; cases z; exact hb rfl
end
structure Un (fs ex : List Addr) (H H' : Hp) (h h' : Heap) : Prop where
  keep : ∀ b o, h.get? b = some o → H b = none → b ∉ fs → b ∉ ex → h'.get? b = some o
  slot : ∀ b o, h.get? b = some o → H b = none → b ∈ fs → b ∉ ex → ∃ sl, h'.get? b = some { o with slots := sl }
  free : ∀ b o, h.get? b = some o → H b = none → b ∉ ex → H' b = none
  there : ∀ b o, h.get? b = some o → b ∉ ex → ∃ o', h'.get? b = some o'
  tups : ∀ b xs, H b = some (.tup xs) → H' b = some (.tup xs)
  frzs : ∀ b o u, H b = some (.frz o u) → H' b = some (.frz o u)
  tbls : ∀ b ps, H b = some (.tbl ps) → ∃ more, H' b = some (.tbl (ps ++ more))
section
variable {fs fs' ex ex' : List Addr} {H H1 H2 : Hp} {h h1 h2 h' : Heap} {a x e : Addr} {o : HO}
theorem Un.any (u : Un fs ex H H1 h h1) {b : Addr} {ob : Obj} (q : h.get? b = some ob) (n : H b = none) (hx : b ∉ ex) : ∃ sl, h1.get? b = some { ob with slots := sl } := by
  by_cases hb : b ∈ fs
  · exact u.slot b ob q n hb hx
  · exact ⟨ob.slots, u.keep b ob q n hb hx⟩
theorem Un.trans (a : Un fs ex H H1 h h1) (b : Un fs ex H1 H2 h1 h2) : Un fs ex H H2 h h2 where
  keep := fun c ob q n hc hx => b.keep c ob (a.keep c ob q n hc hx) (a.free c ob q n hx) hc hx
  slot := fun c ob q n hc hx => by
    obtain ⟨sl, e1⟩ := a.slot c ob q n hc hx
    obtain ⟨sl', e2⟩ := b.slot c _ e1 (a.free c ob q n hx) hc hx
    exact ⟨sl', e2⟩
  free := fun c ob q n hx => by
    obtain ⟨o', e1⟩ := a.there c ob q hx
    exact b.free c o' e1 (a.free c ob q n hx) hx
  there := fun c ob q hx => by
    obtain ⟨o', e1⟩ := a.there c ob q hx
    exact b.there c o' e1 hx
  tups := fun c xs q => b.tups c xs (a.tups c xs q)
  frzs := fun c ob xs q => b.frzs c ob xs (a.frzs c ob xs q)
  tbls := fun c ps q => by
    obtain ⟨m1, e1⟩ := a.tbls c ps q
    obtain ⟨m2, e2⟩ := b.tbls c _ e1
    exact ⟨m1 ++ m2, by rw [e2, Array.append_assoc]⟩
theorem Un.kept (k : ∀ b u, h.get? b = some u → h'.get? b = some u) : Un fs ex H H h h' :=
  ⟨fun b ob q _ _ _ => k b ob q, fun b ob q _ _ _ => ⟨ob.slots, k b ob q⟩, fun _ _ _ n _ => n, fun b ob q _ => ⟨ob, k b ob q⟩, fun _ _ q => q, fun _ _ _ q => q, fun _ ps q => ⟨#[], by rw [q]; simp⟩⟩
theorem Un.refl : Un fs ex H H h h := Un.kept fun _ _ q => q
theorem Un.laid (k : ∀ b u, h.get? b = some u → h'.get? b = some u) (hp : h.objs.size ≤ a) (hn : H a = none) : Un fs ex H (upd H a o) h h' where
  keep := fun b u q _ _ _ => k b u q
  slot := fun b u q _ _ _ => ⟨u.slots, k b u q⟩
  free := fun b u q n _ => by rw [upd_ne (Nat.ne_of_lt (Nat.lt_of_lt_of_le (Heap.lt_size q) hp))]; exact n
  there := fun b u q _ => ⟨u, k b u q⟩
  tups := fun b xs q => by rw [upd_ne (ne_of_none q hn)]; exact q
  frzs := fun b u xs q => by rw [upd_ne (ne_of_none q hn)]; exact q
  tbls := fun b ps q => ⟨#[], by rw [upd_ne (ne_of_none q hn), q]; simp⟩
theorem Un.write (mu : Mut (H x)) (he : e = x ∨ H e = some (.own x)) (k : ∀ b u, b ≠ e → h.get? b = some u → h'.get? b = some u) (heo : ∃ u, h'.get? e = some u) : Un fs ex H (upd H x o) h h' := by
  have hx : ∀ b, H b = none → b ≠ x := fun b n z => by subst z; rw [n] at mu; exact mu
  have hb : ∀ b, H b = none → b ≠ e := fun b n z => by
    subst z
    rcases he with r | r
    · exact hx b n r
    · rw [n] at r; cases r
  have hm : ∀ b u, H b = some u → ¬ Mut (some u) → b ≠ x := fun b u q nm z => by subst z; rw [q] at mu; exact nm mu
  refine ⟨fun b u q n _ _ => k b u (hb b n) q, fun b u q n _ _ => ⟨u.slots, k b u (hb b n) q⟩, fun b u q n _ => by rw [upd_ne (hx b n)]; exact n, fun b u q _ => ?_,
    fun b xs q => by rw [upd_ne (hm b _ q fun z => z)]; exact q, fun b u xs q => by rw [upd_ne (hm b _ q fun z => z)]; exact q, fun b ps q => ⟨#[], by rw [upd_ne (hm b _ q fun z => z), q]; simp⟩⟩
  by_cases hbe : b = e
  · subst hbe; exact heo
  · exact ⟨u, k b u hbe q⟩
end
def trk (h : Heap) (H : Hp) : List Addr := (List.range h.objs.size).filter fun a => (H a).isSome
def hidT (h : Heap) (H : Hp) : Heap := PySem.W.hideAll h (trk h H)
theorem hidT_size (h : Heap) (H : Hp) : (hidT h H).objs.size = h.objs.size := PySem.W.hideAll_size _ _
theorem hidT_get {h : Heap} {H : Hp} {b : Addr} {o : Obj} (e : h.get? b = some o) (n : H b = none) : (hidT h H).get? b = some o :=
  PySem.W.hideAll_get _ e fun hm => by
    have q : (H b).isSome = true := (List.mem_filter.mp hm).2
    rw [n] at q; simp at q
theorem of_hidT {h : Heap} {H : Hp} {b : Addr} {o : Obj} (e : (hidT h H).get? b = some o) : h.get? b = some o ∧ H b = none := by
  have e' : h.get? b = some o := PySem.W.of_hideAll (trk h H) e
  refine ⟨e', ?_⟩
  cases q : H b with
  | none => rfl
  | some x =>
    have hm : b ∈ trk h H := List.mem_filter.mpr ⟨List.mem_range.mpr (Heap.lt_size e'), by simp [q]⟩
    have z : (hidT h H).get? b = none := PySem.W.hideAll_none (trk h H) hm
    rw [z] at e; cases e

end L2
namespace L2
open PySem PySem.Spec PyProof.Rows
structure Mod (K : PySem.W.Frag) (mg : Str → Option Value) (base : Heap) : Prop where
  kin : K.In base
  glob : base.Ns mainGlobals mg
  blt : ∃ mb, base.Ns builtinsNs mb ∧ ∀ x : Str, x ≠ "__name__" → mb x = bootBuiltins x
  nolimit : base.NoLimit

structure Cx where
  prog : Program
  w : World
  K : PySem.W.Frag
  mg : Str → Option Value
  base : Heap
  A : Around
  N : List Str
  s₀ : Shared
  H₀ : Hp
  env : Env
  outer : List Env
  stack : List Env
  ex : List Addr
  fn : Str → Bool
  calm : Bool
  pn : List (Addr × Obj)
  xe : Value → Shared → Prop
def frs (l : List Env) : List Addr := l.filterMap (·.frame)
abbrev Cx.fs (X : Cx) : List Addr := frs X.outer

def Vis (sc : Scope) (x : Str) : Prop := sc.names.lookup x = some .local ∨ sc.names.lookup x = some .cell ∨ sc.names.lookup x = some .free
def Loc (sc : Scope) (x : Str) : Prop := sc.names.lookup x = some .local ∨ sc.names.lookup x = some .cell
def Look (env : Env) (h : Heap) (m : Str → Option Value) (x : Str) (u : Value) : Prop :=
  (env.kindOf x = some .local ∧ m x = some u) ∨ ((env.kindOf x = some .cell ∨ env.kindOf x = some .free) ∧ ∃ c, env.cells.lookup x = some c ∧ h.IsCell c (some u))

structure Cx.Ok (X : Cx) : Prop where
  mod : Mod X.K X.mg X.base
  kind : X.env.scope.kind = .function
  glob : X.env.globals = mainGlobals
  blt : X.env.builtins = builtinsNs
  above : X.s₀.heap.objs.size ≤ X.env.locals
  inj : ∀ x y c, X.env.cells.lookup x = some c → X.env.cells.lookup y = some c → x = y
  has : ∀ x, (X.env.kindOf x = some .cell ∨ X.env.kindOf x = some .free) → ∃ c, X.env.cells.lookup x = some c
  cab : ∀ x c, X.fn x = true → X.env.cells.lookup x = some c → X.s₀.heap.objs.size ≤ c
  hd : X.calm = true → X.A.handled = none
  frames : X.A.frames = some X.stack
  stk : X.stack = X.outer ∨ (X.stack = X.env :: X.outer ∧ X.env.frame = some X.env.locals)
  exf : ∀ b ∈ X.ex, b ≠ X.env.locals ∧ ∀ x c, X.env.cells.lookup x = some c → c ≠ b
  bs : ∀ b o, X.base.get? b = some o → X.s₀.heap.get? b = some o ∧ X.H₀ b = none
  bsz : X.base.objs.size ≤ X.s₀.heap.objs.size
  noex : ∀ b o, X.base.get? b = some o → b ∉ X.ex
  exfs : ∀ b ∈ X.ex, b ∉ X.fs
  funs : X.s₀.heap.FunFrames X.base X.outer
  frf : ∀ b ∈ X.fs, X.H₀ b = none

structure Inv (X : Cx) (pins : List (Addr × Obj)) (σ : List (Option V)) (H : Hp) (s : Shared) : Prop where
  ok : X.Ok
  os : s.os = X.s₀.os
  bare : AllBare s.gens
  base : Un X.fs X.ex X.H₀ H X.s₀.heap s.heap
  loc : ∃ m, s.heap.Ns X.env.locals m ∧ ∀ (i : Nat) (x : Str) (v : V), X.N[i]? = some x → σ[i]? = some (some v) → Vis X.env.scope x → ∃ u, RelV v u ∧ Look X.env s.heap m x u
  cell : ∀ x c, X.env.cells.lookup x = some c → ∃ v, s.heap.IsCell c v
  free : H X.env.locals = none
  freeC : ∀ x c, X.env.cells.lookup x = some c → H c = none
  pin : ∀ p ∈ X.pn ++ pins, s.heap.get? p.1 = some p.2 ∧ H p.1 = none ∧ p.1 ≠ X.env.locals ∧ p.1 ∉ X.fs ∧ ∀ v, p.2.data ≠ .cell v
  hok : HOk X.prog X.w H s.heap
  len : σ.length = X.N.length

section
variable {X : Cx} {pins : List (Addr × Obj)} {σ : List (Option V)} {H H' : Hp} {s : Shared} {h' : Heap}
theorem Cx.Ok.nofr (ok : X.Ok) {b : Addr} {o : Obj} (e : X.base.get? b = some o) : b ∉ X.fs := fun hb => by
  have := (ok.funs.mem hb).1
  rw [e] at this; cases this
theorem Inv.bs (I : Inv X pins σ H s) : ∀ b o, X.base.get? b = some o → s.heap.get? b = some o ∧ H b = none := fun b o e =>
  ⟨I.base.keep b o (I.ok.bs b o e).1 (I.ok.bs b o e).2 (I.ok.nofr e) (I.ok.noex b o e), I.base.free b o (I.ok.bs b o e).1 (I.ok.bs b o e).2 (I.ok.noex b o e)⟩
theorem Inv.bk (I : Inv X pins σ H s) : ∀ b o, X.base.get? b = some o → s.heap.get? b = some o := fun b o e => (I.bs b o e).1
theorem Inv.mod (I : Inv X pins σ H s) : Mod X.K X.mg X.base := I.ok.mod
theorem Inv.kIn (I : Inv X pins σ H s) : X.K.In s.heap := I.ok.mod.kin.keeps I.bk
theorem Inv.lt (I : Inv X pins σ H s) : X.env.locals < s.heap.objs.size := let ⟨_, hn, _⟩ := I.loc; hn.lt
theorem Inv.sz (I : Inv X pins σ H s) : X.s₀.heap.objs.size ≤ s.heap.objs.size := Nat.le_trans I.ok.above (Nat.le_of_lt I.lt)
theorem Inv.nofs (I : Inv X pins σ H s) {a : Addr} (h : s.heap.objs.size ≤ a) : a ∉ X.fs := fun hb => by
  obtain ⟨_, o, ho, _⟩ := I.ok.funs.mem hb
  exact absurd (Nat.lt_of_lt_of_le (Heap.lt_size ho) (Nat.le_trans I.sz h)) (Nat.lt_irrefl _)
theorem Inv.cne (I : Inv X pins σ H s) : ∀ x c, X.env.cells.lookup x = some c → c ≠ X.env.locals := fun x c e z => by
  obtain ⟨v, o, ho, hd⟩ := I.cell x c e
  obtain ⟨m, ⟨o', es, ep, ho', hd', _⟩, _⟩ := I.loc
  rw [z, ho'] at ho; cases ho; rw [hd'] at hd; cases hd
theorem Inv.funs (I : Inv X pins σ H s) : s.heap.FunFrames X.base X.outer := by
  have all : ∀ (l : List Env), (∀ b ∈ frs l, b ∈ X.fs) → X.s₀.heap.FunFrames X.base l → s.heap.FunFrames X.base l := by
    intro l
    induction l with
    | nil => intro _ _; trivial
    | cons env r ih =>
      intro hs hl
      obtain ⟨hk, ⟨L, o, hf, hn, ho, hd⟩, hr⟩ := hl
      have hL : L ∈ X.fs := hs L (by unfold frs; rw [List.filterMap_cons, hf]; exact List.mem_cons_self)
      obtain ⟨sl, e⟩ := I.base.slot L o ho (I.ok.frf L hL) hL fun z => I.ok.exfs L z hL
      exact ⟨hk, ⟨L, _, hf, hn, e, hd⟩, ih (fun b hb => hs b (by unfold frs; rw [List.filterMap_cons, hf]; exact List.mem_cons_of_mem _ hb)) hr⟩
  exact all X.outer (fun _ hb => hb) I.ok.funs

theorem Inv.stack (I : Inv X pins σ H s) : s.heap.FunFrames X.base X.stack := by
  rcases I.ok.stk with e | ⟨e, hf⟩
  · rw [e]; exact I.funs
  · rw [e]
    obtain ⟨m, hn, _⟩ := I.loc
    refine .cons (by rw [I.ok.kind]; decide) hf hn ?_ I.funs
    exact Heap.get?_none_of_le (Nat.le_trans I.ok.bsz I.ok.above)
theorem Inv.stkSub (I : Inv X pins σ H s) : ∀ b ∈ frs X.stack, b ∈ X.env.locals :: X.fs := fun b hb => by
  rcases I.ok.stk with e | ⟨e, hf⟩
  · rw [e] at hb; exact List.mem_cons_of_mem _ hb
  · rw [e] at hb
    unfold frs at hb
    rw [List.filterMap_cons, hf] at hb
    exact hb
theorem Inv.stkFree (I : Inv X pins σ H s) : ∀ b ∈ frs X.stack, H b = none := fun b hb => by
  rcases List.mem_cons.mp (I.stkSub b hb) with e | hb
  · rw [e]; exact I.free
  · obtain ⟨_, o, ho, _⟩ := I.ok.funs.mem hb
    exact I.base.free b o ho (I.ok.frf b hb) fun z => I.ok.exfs b z hb

theorem Inv.step {g' : Array GenState} {t' : Nat} {d' : Drawn} {ch : List Addr} (I : Inv X pins σ H s)
    (hch : ∀ b ∈ ch, (b ∈ X.ex ∨ X.s₀.heap.objs.size ≤ b) ∧ b ≠ X.env.locals ∧ (∀ x c, X.env.cells.lookup x = some c → c ≠ b) ∧ ∀ p ∈ X.pn ++ pins, p.1 ≠ b)
    (keep : ∀ b o, b ≠ X.env.locals → b ∉ X.fs → b ∉ ch → s.heap.get? b = some o → H b = none → h'.get? b = some o)
    (slot : ∀ b o, b ≠ X.env.locals → b ∈ X.fs → b ∉ ch → s.heap.get? b = some o → H b = none → ∃ sl, h'.get? b = some { o with slots := sl }) (free : ∀ b o, b ∉ ch → s.heap.get? b = some o → H b = none → H' b = none)
    (there : ∀ b o, b ∉ ch → s.heap.get? b = some o → ∃ o', h'.get? b = some o')
    (tups : ∀ b xs, H b = some (.tup xs) → H' b = some (.tup xs)) (frzs : ∀ b o u, H b = some (.frz o u) → H' b = some (.frz o u)) (tbls : ∀ b ps, H b = some (.tbl ps) → ∃ more, H' b = some (.tbl (ps ++ more)))
    (ns : ∀ m, s.heap.Ns X.env.locals m → h'.Ns X.env.locals m) (hok : HOk X.prog X.w H' h') (hg : AllBare g') :
    Inv X pins σ H' { s with heap := h', gens := g', drawn := d', toks := t' } := by
  have neL : ∀ b o, X.s₀.heap.get? b = some o → b ≠ X.env.locals := fun b o e => Nat.ne_of_lt (Nat.lt_of_lt_of_le (Heap.lt_size e) I.ok.above)
  have neC : ∀ b o, X.s₀.heap.get? b = some o → b ∉ X.ex → b ∉ ch := fun b o e hx hb => by
    rcases (hch b hb).1 with z | z
    · exact hx z
    · exact absurd (Nat.lt_of_lt_of_le (Heap.lt_size e) z) (Nat.lt_irrefl _)
  have cellK : ∀ x c, X.env.cells.lookup x = some c → ∀ v, s.heap.IsCell c v → h'.IsCell c v := fun x c e v ⟨o, ho, hd⟩ => by
    have nch : c ∉ ch := fun z => (hch c z).2.2.1 x c e rfl
    by_cases hc : c ∈ X.fs
    · obtain ⟨sl, q⟩ := slot c o (I.cne x c e) hc nch ho (I.freeC x c e)
      exact ⟨_, q, hd⟩
    · exact ⟨o, keep c o (I.cne x c e) hc nch ho (I.freeC x c e), hd⟩
  refine ⟨I.ok, I.os, hg, ⟨fun b o e n hb hx => ?_, fun b o e n hb hx => ?_, fun b o e n hx => ?_, fun b o e hx => ?_, fun b xs e => tups b xs (I.base.tups b xs e), fun b o xs e => frzs b o xs (I.base.frzs b o xs e), fun b ps e => ?_⟩, ?_, fun x c e => ?_, ?_, fun x c e => ?_, fun p hp => ?_, hok, I.len⟩
  · exact keep b o (neL b o e) hb (neC b o e hx) (I.base.keep b o e n hb hx) (I.base.free b o e n hx)
  · obtain ⟨sl, e1⟩ := I.base.slot b o e n hb hx
    obtain ⟨sl', e2⟩ := slot b _ (neL b o e) hb (neC b o e hx) e1 (I.base.free b o e n hx)
    exact ⟨sl', e2⟩
  · obtain ⟨o', e1⟩ := I.base.there b o e hx
    exact free b o' (neC b o e hx) e1 (I.base.free b o e n hx)
  · obtain ⟨o', e1⟩ := I.base.there b o e hx
    exact there b o' (neC b o e hx) e1
  · obtain ⟨m1, e1⟩ := I.base.tbls b ps e
    obtain ⟨m2, e2⟩ := tbls b _ e1
    exact ⟨m1 ++ m2, by rw [e2, Array.append_assoc]⟩
  · obtain ⟨m, hn, hl⟩ := I.loc
    refine ⟨m, ns m hn, fun i x v e1 e2 e3 => ?_⟩
    obtain ⟨u, r, l⟩ := hl i x v e1 e2 e3
    refine ⟨u, r, ?_⟩
    rcases l with l | ⟨k, c, e, z⟩
    · exact .inl l
    · exact .inr ⟨k, c, e, cellK x c e _ z⟩
  · obtain ⟨v, z⟩ := I.cell x c e
    exact ⟨v, cellK x c e v z⟩
  · obtain ⟨m, ⟨o, _, _, ho, _⟩, _⟩ := I.loc
    exact free _ o (fun z => (hch _ z).2.1 rfl) ho I.free
  · obtain ⟨v, o, ho, hd⟩ := I.cell x c e
    exact free c o (fun z => (hch c z).2.2.1 x c e rfl) ho (I.freeC x c e)
  · obtain ⟨e, n, ne, nf, d⟩ := I.pin p hp
    have nch : p.1 ∉ ch := fun z => (hch p.1 z).2.2.2 p hp rfl
    exact ⟨keep p.1 p.2 ne nf nch e n, free p.1 p.2 nch e n, ne, nf, d⟩
theorem Inv.un {t' : Nat} (I : Inv X pins σ H s) (u : Un X.fs [] H H' s.heap h') (hok : HOk X.prog X.w H' h') : Inv X pins σ H' { s with heap := h', toks := t' } := by
  obtain ⟨m, ⟨o, es, ep, ho, r⟩, _⟩ := id I.loc
  obtain ⟨sl, hL⟩ := u.any ho I.free (by simp)
  exact I.step (g' := s.gens) (d' := s.drawn) (ch := []) (fun _ z => nomatch z) (fun b o _ hb _ e n => u.keep b o e n hb (by simp)) (fun b o _ hb _ e n => u.slot b o e n hb (by simp)) (fun b o _ e n => u.free b o e n (by simp)) (fun b o _ e => u.there b o e (by simp)) u.tups u.frzs u.tbls (fun m' hm => by
    obtain ⟨o', es', ep', ho', r'⟩ := hm
    rw [ho] at ho'; cases ho'
    exact ⟨_, es', ep', hL, r'⟩) hok I.bare
theorem Inv.call {g' : Array GenState} {t' : Nat} {d' : Drawn} {ch : List Addr} (I : Inv X pins σ H s) (u : Un (frs X.stack) ch H H' s.heap h') (hok : HOk X.prog X.w H' h') (hg : AllBare g')
    (hch : ∀ b ∈ ch, (b ∈ X.ex ∨ X.s₀.heap.objs.size ≤ b) ∧ b ≠ X.env.locals ∧ (∀ x c, X.env.cells.lookup x = some c → c ≠ b) ∧ ∀ p ∈ X.pn ++ pins, p.1 ≠ b) :
    Inv X pins σ H' { s with heap := h', gens := g', drawn := d', toks := t' } := by
  obtain ⟨m, ⟨o, es, ep, ho, r⟩, _⟩ := id I.loc
  obtain ⟨sl, hL⟩ := u.any ho I.free fun z => (hch _ z).2.1 rfl
  exact I.step (ch := ch) hch (fun b o hL hb hc e n => u.keep b o e n (fun z => (List.mem_cons.mp (I.stkSub b z)).elim hL hb) hc) (fun b o _ _ hc e n => u.any e n hc) (fun b o hc e n => u.free b o e n hc) (fun b o hc e => u.there b o e hc) u.tups u.frzs u.tbls (fun m' hm => by
    obtain ⟨o', es', ep', ho', r'⟩ := hm
    rw [ho] at ho'; cases ho'
    exact ⟨_, es', ep', hL, r'⟩) hok hg
theorem Inv.turned {t' : Nat} {it : Addr} (I : Inv X pins σ H s) (k : ∀ b o, b ≠ it → s.heap.get? b = some o → h'.get? b = some o) (hn : H it = none) (hL : it ≠ X.env.locals)
    (h1 : it ∈ X.ex ∨ X.s₀.heap.objs.size ≤ it) (h2 : ∀ x c, X.env.cells.lookup x = some c → c ≠ it) (h3 : ∀ p ∈ X.pn ++ pins, p.1 ≠ it) : Inv X pins σ H { s with heap := h', toks := t' } := by
  have nit : ∀ b u, H b = some u → b ≠ it := fun b u e z => by rw [z, hn] at e; cases e
  refine I.step (g' := s.gens) (d' := s.drawn) (ch := [it]) (fun b hb => ?_) (fun b o _ _ hc e _ => k b o (fun z => hc (by simp [z])) e) (fun b o _ _ hc e _ => ⟨o.slots, k b o (fun z => hc (by simp [z])) e⟩) (fun _ _ _ _ n => n)
    (fun b o hc e => ⟨o, k b o (fun z => hc (by simp [z])) e⟩) (fun _ _ e => e) (fun _ _ _ e => e) (fun b ps e => ⟨#[], by rw [e]; simp⟩) (fun m hm => ?_) (fun b u e => ?_) I.bare
  · have e : b = it := by simpa using hb
    subst e
    exact ⟨h1, hL, h2, h3⟩
  · obtain ⟨o, es, ep, ho, r⟩ := hm
    exact ⟨o, es, ep, k _ o (Ne.symm hL) ho, r⟩
  · refine (I.hok b u e).stay (fun c v hc q => k c v ?_ q) (fun _ q => q) fun _ _ q => q
    rcases hc with z | z
    · rw [z]; exact nit b u e
    · exact nit c _ z
theorem Inv.tok (I : Inv X pins σ H s) (t : Nat) : Inv X pins σ H { s with toks := t } := I.un (h' := s.heap) (t' := t) Un.refl I.hok
theorem Inv.kept {t' : Nat} (I : Inv X pins σ H s) (k : ∀ b u, s.heap.get? b = some u → h'.get? b = some u) : Inv X pins σ H { s with heap := h', toks := t' } := I.un (Un.kept k) (I.hok.kept k)
theorem Inv.laid {a : Addr} {o : HO} {t' : Nat} (I : Inv X pins σ H s) (k : ∀ b u, s.heap.get? b = some u → h'.get? b = some u) (hp : s.heap.objs.size ≤ a) (new : ObjOk X.prog X.w (upd H a o) h' a o) :
    Inv X pins σ (upd H a o) { s with heap := h', toks := t' } := I.un (Un.laid k hp (I.hok.fresh hp)) (I.hok.laid k hp new)
theorem Inv.write {x e : Addr} {o : HO} {t' : Nat} (I : Inv X pins σ H s) (mu : Mut (H x)) (he : e = x ∨ H e = some (.own x)) (k : ∀ b u, b ≠ e → s.heap.get? b = some u → h'.get? b = some u) (heo : ∃ u, h'.get? e = some u)
    (new : ObjOk X.prog X.w (upd H x o) h' x o) : Inv X pins σ (upd H x o) { s with heap := h', toks := t' } := I.un (Un.write mu he k heo) (I.hok.write mu he k heo new)
theorem Inv.weak {σ' : List (Option V)} (I : Inv X pins σ H s) (hl : σ'.length = σ.length) (w : ∀ (i : Nat) v, σ'[i]? = some (some v) → σ[i]? = some (some v)) : Inv X pins σ' H s :=
  ⟨I.ok, I.os, I.bare, I.base, let ⟨m, hn, hl'⟩ := I.loc; ⟨m, hn, fun i x v e1 e2 e3 => hl' i x v e1 (w i v e2) e3⟩, I.cell, I.free, I.freeC, I.pin, I.hok, hl.trans I.len⟩
theorem Inv.pins_of {pins' : List (Addr × Obj)} (I : Inv X pins σ H s) (h : ∀ p ∈ pins', s.heap.get? p.1 = some p.2 ∧ H p.1 = none ∧ p.1 ≠ X.env.locals ∧ p.1 ∉ X.fs ∧ ∀ v, p.2.data ≠ .cell v) : Inv X pins' σ H s :=
  ⟨I.ok, I.os, I.bare, I.base, I.loc, I.cell, I.free, I.freeC, fun p hp => (List.mem_append.mp hp).elim (fun z => I.pin p (List.mem_append_left _ z)) (h p), I.hok, I.len⟩

theorem nodup_ix {N : List Str} (hN : N.Nodup) {i j : Nat} {x : Str} (a : N[i]? = some x) (b : N[j]? = some x) : i = j := by
  obtain ⟨h1, e1⟩ := List.getElem?_eq_some_iff.mp a
  obtain ⟨h2, e2⟩ := List.getElem?_eq_some_iff.mp b
  exact (List.getElem_inj hN).mp (e1.trans e2.symm)

theorem store_ok2 {M : Model} {A : Around} {E : Value → Shared → Prop} {i : Nat} {x : Str} {v : V} {u : Value} {Q : Unit → Shared → Prop} (I : Inv X pins σ H s) (hN : X.N.Nodup) (hi : X.N[i]? = some x) (hx : Loc X.env.scope x) (r : RelV v u)
    (h : ∀ s', Inv X pins (σ.set i (some v)) H s' → (∃ a, Heap.SameBut a s.heap s'.heap ∧ (a = X.env.locals ∨ X.env.cells.lookup x = some a)) → Q () s') (hf : X.fn x = true ∨ X.env.scope.names.lookup x = some .local := by first | exact .inl rfl | exact .inr rfl | assumption) : wpAny M A (storeName X.env x u) Q E s := by
  obtain ⟨m, hn, hl⟩ := id I.loc
  have hcls : (X.env.scope.kind == .class || (X.env.scope.kind == .module && X.env.locals != X.env.globals)) = false := by rw [I.ok.kind]; rfl
  have hiσ : i < σ.length := by rw [I.len]; exact (List.getElem?_eq_some_iff.mp hi).1
  have cne := I.cne
  have tracked : ∀ {a : Addr} {h' : Heap}, (∃ o, s.heap.get? a = some o ∧ H a = none) → Heap.SameBut a s.heap h' → HOk X.prog X.w H h' := fun {a h'} ha hs b ob e => by
    obtain ⟨_, _, hfree⟩ := ha
    refine (I.hok b ob e).stay (fun c w' hc q => (hs.2 c ?_).trans q) (fun _ q => q) fun _ _ q => q
    rintro rfl
    rcases hc with rfl | hc
    · rw [hfree] at e; cases e
    · rw [hfree] at hc; cases hc
  rcases hx with hk | hk
  · refine wpAny_storeName_local hk hn (fun h' hn' hs => ?_) hcls
    obtain ⟨oL, _, _, hoL, _⟩ := id hn
    refine h _ ⟨I.ok, I.os, I.bare, ⟨fun b o e n hb hx => ?_, fun b o e n hb hx => ?_, I.base.free, fun b o e hx => ?_, I.base.tups, I.base.frzs, I.base.tbls⟩, ⟨_, hn', fun j y v' e1 e2 e3 => ?_⟩, fun y c e => ?_, I.free, I.freeC, fun p hp => ?_, tracked ⟨oL, hoL, I.free⟩ hs, by simpa using I.len⟩ ⟨_, hs, .inl rfl⟩
    · exact (hs.2 b (Nat.ne_of_lt (Nat.lt_of_lt_of_le (Heap.lt_size e) I.ok.above))).trans (I.base.keep b o e n hb hx)
    · obtain ⟨sl, e1⟩ := I.base.slot b o e n hb hx
      exact ⟨sl, (hs.2 b (Nat.ne_of_lt (Nat.lt_of_lt_of_le (Heap.lt_size e) I.ok.above))).trans e1⟩
    · obtain ⟨o', e1⟩ := I.base.there b o e hx
      exact ⟨o', (hs.2 b (Nat.ne_of_lt (Nat.lt_of_lt_of_le (Heap.lt_size e) I.ok.above))).trans e1⟩
    · by_cases hj : j = i
      · subst hj
        rw [hi] at e1; cases e1
        rw [List.getElem?_set_self hiσ] at e2
        cases e2
        exact ⟨u, r, .inl ⟨hk, by simp⟩⟩
      · rw [List.getElem?_set_ne (Ne.symm hj)] at e2
        obtain ⟨u', r', q⟩ := hl j y v' e1 e2 e3
        refine ⟨u', r', ?_⟩
        rcases q with ⟨k, e⟩ | ⟨k, c, e, z⟩
        · refine .inl ⟨k, ?_⟩
          have : y ≠ x := fun e => hj (nodup_ix hN e1 (e ▸ hi))
          simp [this, e]
        · exact .inr ⟨k, c, e, z.sameBut hs (cne y c e)⟩
    · obtain ⟨w', z⟩ := I.cell y c e
      exact ⟨w', z.sameBut hs (cne y c e)⟩
    · obtain ⟨e, n, ne, nf, d⟩ := I.pin p hp
      exact ⟨(hs.2 p.1 ne).trans e, n, ne, nf, d⟩
  · have hfn : X.fn x = true := by
      rcases hf with z | z
      · exact z
      · rw [z] at hk; cases hk
    obtain ⟨c, hc⟩ := I.ok.has x (.inl hk)
    obtain ⟨w', z⟩ := I.cell x c hc
    refine wpAny_storeName_cell I.ok.kind hk hc z (fun h' hc' hs => ?_)
    obtain ⟨oc, hoc, hocd⟩ := id z
    refine h { s with heap := h' } ⟨I.ok, I.os, I.bare, ⟨fun b o e n hb hx => ?_, fun b o e n hb hx => ?_, I.base.free, fun b o e hx => ?_, I.base.tups, I.base.frzs, I.base.tbls⟩, ⟨m, hn.sameBut hs (Ne.symm (cne x c hc)), fun j y v' e1 e2 e3 => ?_⟩, fun y c' e => ?_, I.free, I.freeC, fun p hp => ?_, tracked ⟨oc, hoc, I.freeC x c hc⟩ hs, by simpa using I.len⟩ ⟨c, hs, .inr hc⟩
    · exact (hs.2 b (Nat.ne_of_lt (Nat.lt_of_lt_of_le (Heap.lt_size e) (I.ok.cab x c hfn hc)))).trans (I.base.keep b o e n hb hx)
    · obtain ⟨sl, e1⟩ := I.base.slot b o e n hb hx
      exact ⟨sl, (hs.2 b (Nat.ne_of_lt (Nat.lt_of_lt_of_le (Heap.lt_size e) (I.ok.cab x c hfn hc)))).trans e1⟩
    · obtain ⟨o', e1⟩ := I.base.there b o e hx
      exact ⟨o', (hs.2 b (Nat.ne_of_lt (Nat.lt_of_lt_of_le (Heap.lt_size e) (I.ok.cab x c hfn hc)))).trans e1⟩
    · by_cases hj : j = i
      · subst hj
        rw [hi] at e1; cases e1
        rw [List.getElem?_set_self hiσ] at e2
        cases e2
        exact ⟨u, r, .inr ⟨.inl hk, c, hc, hc'⟩⟩
      · rw [List.getElem?_set_ne (Ne.symm hj)] at e2
        obtain ⟨u', r', q⟩ := hl j y v' e1 e2 e3
        refine ⟨u', r', ?_⟩
        rcases q with q | ⟨k, c', e, z'⟩
        · exact .inl q
        · refine .inr ⟨k, c', e, z'.sameBut hs ?_⟩
          rintro rfl
          exact hj (nodup_ix hN e1 (I.ok.inj _ _ _ e hc ▸ hi))
    · by_cases hcc : c' = c
      · subst hcc; exact ⟨_, hc'⟩
      · obtain ⟨w2, z2⟩ := I.cell y c' e
        exact ⟨w2, z2.sameBut hs hcc⟩
    · obtain ⟨e, n, ne, nf, d⟩ := I.pin p hp
      refine ⟨(hs.2 p.1 ?_).trans e, n, ne, nf, d⟩
      intro q
      rw [q, hoc] at e
      have q' : oc = p.2 := Option.some.inj e
      exact d w' (by rw [← q']; exact hocd)
theorem store_ok {M : Model} {A : Around} {E : Value → Shared → Prop} {i : Nat} {x : Str} {v : V} {u : Value} {Q : Unit → Shared → Prop} (I : Inv X pins σ H s) (hN : X.N.Nodup) (hi : X.N[i]? = some x) (hx : Loc X.env.scope x) (r : RelV v u)
    (h : ∀ s', Inv X pins (σ.set i (some v)) H s' → Q () s') (hf : X.fn x = true ∨ X.env.scope.names.lookup x = some .local := by first | exact .inl rfl | exact .inr rfl | assumption) : wpAny M A (storeName X.env x u) Q E s :=
  store_ok2 I hN hi hx r (fun s' I' _ => h s' I') hf
theorem Inv.call' {s' : Shared} {ch : List Addr} (I : Inv X pins σ H s) (ho : s'.os = s.os) (u : Un (frs X.stack) ch H H' s.heap s'.heap) (hok : HOk X.prog X.w H' s'.heap) (hg : AllBare s'.gens)
    (hch : ∀ b ∈ ch, (b ∈ X.ex ∨ X.s₀.heap.objs.size ≤ b) ∧ b ≠ X.env.locals ∧ (∀ x c, X.env.cells.lookup x = some c → c ≠ b) ∧ ∀ p ∈ X.pn ++ pins, p.1 ≠ b) : Inv X pins σ H' s' := by
  obtain ⟨h', g', d', t', o'⟩ := s'
  have e : o' = s.os := ho
  subst e
  exact I.call (g' := g') (t' := t') (d' := d') u hok hg hch
end
abbrev XK := Value → Option Addr → Hp → Prop
abbrev St := List (Option V)
abbrev VK := V → Hp → Prop
abbrev TE := St → Hp → VK → Prop
abbrev TT := St → Hp → (Bool → Hp → Prop) → Prop
abbrev TA := St → Hp → (List V → Hp → Prop) → Prop
structure Ends where
  nx : St → Hp → Prop
  rt : VK
  bk : St → Hp → Prop := fun _ _ => False
  ct : St → Hp → Prop := fun _ _ => False
abbrev TS := Ends → St → Hp → Prop

def EP (X : Cx) (pins : List (Addr × Obj)) (σ : St) (Q : VK) (u : Value) (s' : Shared) : Prop := ∃ v H', Inv X pins σ H' s' ∧ RelV v u ∧ Q v H'
def TP (X : Cx) (pins : List (Addr × Obj)) (σ : St) (Q : Bool → Hp → Prop) (b : Bool) (s' : Shared) : Prop := ∃ H', Inv X pins σ H' s' ∧ Q b H'
def AP (X : Cx) (pins : List (Addr × Obj)) (σ : St) (Q : List V → Hp → Prop) (us : List Value) (s' : Shared) : Prop := ∃ vs H', Inv X pins σ H' s' ∧ Vals vs us ∧ Q vs H'
def SP (X : Cx) (pins : List (Addr × Obj)) (D : Ends) (f : Flow) (s' : Shared) : Prop :=
  match f with
  | .next => ∃ σ' H', Inv X pins σ' H' s' ∧ D.nx σ' H'
  | .brk => ∃ σ' H', Inv X pins σ' H' s' ∧ D.bk σ' H'
  | .cont => ∃ σ' H', Inv X pins σ' H' s' ∧ D.ct σ' H'
  | .ret u => ∃ v σ' H', Inv X pins σ' H' s' ∧ RelV v u ∧ D.rt v H'

def PE (X : Cx) (e : Expr) (t : TE) : Prop :=
  ∀ (pins : List (Addr × Obj)) (s : Shared) (σ : St) (H : Hp) (Q : VK), Inv X pins σ H s → t σ H Q → wpAny (model X.prog X.w) X.A (eval e X.env) (EP X pins σ Q) X.xe s
def PT (X : Cx) (e : Expr) (t : TT) : Prop :=
  ∀ (pins : List (Addr × Obj)) (s : Shared) (σ : St) (H : Hp) (Q : Bool → Hp → Prop), Inv X pins σ H s → t σ H Q → wpAny (model X.prog X.w) X.A (isTrue e X.env (eval e X.env)) (TP X pins σ Q) X.xe s
def PW (X : Cx) (e : Expr) (t : TT) : Prop :=
  ∀ (whole : Sem Value) (pins : List (Addr × Obj)) (s : Shared) (σ : St) (H : Hp) (Q : Bool → Hp → Prop), Inv X pins σ H s → t σ H Q → wpAny (model X.prog X.w) X.A (isTrue e X.env whole) (TP X pins σ Q) X.xe s
theorem PW.pt {X : Cx} {e : Expr} {t : TT} (h : PW X e t) : PT X e t := h _
def PA (X : Cx) (es : List Expr) (t : TA) : Prop :=
  ∀ (pos : Pos) (pins : List (Addr × Obj)) (s : Shared) (σ : St) (H : Hp) (Q : List V → Hp → Prop), Inv X pins σ H s → t σ H Q → wpAny (model X.prog X.w) X.A (spliced (backTo pos (starEach es X.env))) (AP X pins σ Q) X.xe s
def PS (X : Cx) (st : Stmt) (t : TS) : Prop :=
  ∀ (pins : List (Addr × Obj)) (s : Shared) (σ : St) (H : Hp) (D : Ends), Inv X pins σ H s → t D σ H → wpAny (model X.prog X.w) X.A (exec st X.env) (SP X pins D) X.xe s
def PSs (X : Cx) (st : List Stmt) (t : TS) : Prop :=
  ∀ (pins : List (Addr × Obj)) (s : Shared) (σ : St) (H : Hp) (D : Ends), Inv X pins σ H s → t D σ H → wpAny (model X.prog X.w) X.A (execs st X.env) (SP X pins D) X.xe s
theorem thn {α : Type} {t : Sem α} {Q Q' : α → Shared → Prop} {M : Model} {A : Around} {E : Value → Shared → Prop} {s : Shared} (h : wpAny M A t Q E s) (hQ : ∀ a s, Q a s → Q' a s) : wpAny M A t Q' E s := wpAny_mono h hQ fun _ _ x => x
end L2
namespace L2
open PySem PySem.Spec PyProof.Rows
section
variable {X : Cx}
def tVar (i : Nat) : TE := fun σ H Q => ∃ v, σ[i]? = some (some v) ∧ Q v H
def tC (v : V) : TE := fun _ H Q => Q v H
theorem pe_var {i : Nat} {x : Str} {pos : Pos} (hN : X.N[i]? = some x) (hv : Vis X.env.scope x) (hd : (x == ("__debug__" : Str)) = false := by decide) (hcd : (x == ("__classdict__" : Str)) = false := by decide) : PE X (.Name x pos) (tVar i) := by
  intro pins s σ H Q I h
  obtain ⟨v, e, h⟩ := h
  obtain ⟨m, hn, hl⟩ := I.loc
  obtain ⟨u, r, l⟩ := hl i x v hN e hv
  have fin : EP X pins σ Q u s := ⟨v, H, I, r, h⟩
  rcases l with ⟨hk, hm⟩ | ⟨hk, c, hc, hcell⟩
  · exact wpAny_Name (wpAny_loadName_local I.ok.kind hk hn hm fin) hd
  · rcases hk with hk | hk
    · exact wpAny_Name (wpAny_loadName_cell I.ok.kind hk hc hcell fin) hd
    · exact wpAny_Name (wpAny_loadName_free I.ok.kind hk hc hcell fin hcd) hd
theorem pe_int {i j pos} : PE X (.Constant (.int i) j pos) (tC (.int i)) := fun _ _ _ H _ I h => wpAny_Constant_int ⟨.int i, H, I.tok _, ⟨_, rfl⟩, h⟩
theorem pe_bl {b j pos} : PE X (.Constant (.bool b) j pos) (tC (.bl b)) := fun _ _ _ H _ I h => Constant_bool ⟨.bl b, H, I, rfl, h⟩
theorem pe_str {x j pos} : PE X (.Constant (.str x) j pos) (tC (.str x)) := fun _ _ _ H _ I h => Calls.Constant_str ⟨.str x, H, I.tok _, ⟨_, rfl⟩, h⟩

def Gl (X : Cx) (x : Str) : Prop := X.env.kindOf x = some .globalImplicit
theorem ld_glob {E : Value → Shared → Prop} {pins : List (Addr × Obj)} {s : Shared} {σ : St} {H : Hp} {x : Str} {u : Value} {pos : Pos} {Q : Value → Shared → Prop} (I : Inv X pins σ H s) (hg : Gl X x) (hm : X.mg x = some u) (h : Q u s)
    (hd : (x == ("__debug__" : Str)) = false := by decide) : wpAny (model X.prog X.w) X.A (eval (.Name x pos) X.env) Q E s :=
  Calls.Name_function_global I.ok.kind hg (Calls.loadGlobal_global (by rw [I.ok.glob]; exact I.mod.glob.keeps I.bk) hm h) hd
theorem ld_blt {E : Value → Shared → Prop} {pins : List (Addr × Obj)} {s : Shared} {σ : St} {H : Hp} {x : Str} {u : Value} {pos : Pos} {Q : Value → Shared → Prop} (I : Inv X pins σ H s) (hg : Gl X x) (hm : X.mg x = none) (hv : bootBuiltins x = some u) (h : Q u s)
    (hn : x ≠ "__name__" := by decide) (hd : (x == ("__debug__" : Str)) = false := by decide) : wpAny (model X.prog X.w) X.A (eval (.Name x pos) X.env) Q E s := by
  obtain ⟨mb, h1, h2⟩ := I.mod.blt
  exact Calls.Name_function_global I.ok.kind hg (Calls.loadGlobal_builtin (by rw [I.ok.glob]; exact I.mod.glob.keeps I.bk) hm (by rw [I.ok.blt]; exact h1.keeps I.bk) ((h2 x hn).trans hv) h) hd
theorem pe_glob {x : Str} {v : V} {u : Value} {pos : Pos} (hg : Gl X x) (hm : X.mg x = some u) (r : RelV v u) (hd : (x == ("__debug__" : Str)) = false := by decide) : PE X (.Name x pos) (tC v) :=
  fun _ _ _ H _ I h => ld_glob I hg hm ⟨v, H, I, r, h⟩ hd
theorem pe_bltn {x : Str} {v : V} {u : Value} {pos : Pos} (hg : Gl X x) (hm : X.mg x = none) (hv : bootBuiltins x = some u) (r : RelV v u) (hn : x ≠ "__name__" := by decide) (hd : (x == ("__debug__" : Str)) = false := by decide) : PE X (.Name x pos) (tC v) :=
  fun _ _ _ H _ I h => ld_blt I hg hm hv ⟨v, H, I, r, h⟩ hn hd

variable {a b : Expr} {ta tb : TE} {pos : Pos}
def tB (t : TE) : TT := fun σ H Q => t σ H fun x H1 => ∃ c, x = .bl c ∧ Q c H1
theorem pt_val {e : Expr} {t : TE} (h : PE X e t) (he : ∀ whole, isTrue e X.env whole = (do let v ← whole; standAt e.pos; holding [v] (truthy v)) := by intro _; rfl) : PT X e (tB t) := by
  intro pins s σ H Q I hw
  refine isTrue_plain (thn (h pins s σ H _ I hw) fun v s1 ⟨x, H1, I1, r1, q1⟩ => ?_) (he _)
  obtain ⟨d, rfl, q⟩ := q1
  cases r1
  exact wpAny_truthy_bool ⟨H1, I1, q⟩

variable {tA tB' : TT} {rest : List Expr}
def tAnd (t u : TT) : TT := fun σ H Q => t σ H fun c H1 => if c = true then u σ H1 Q else Q false H1
def tOr (t u : TT) : TT := fun σ H Q => t σ H fun c H1 => if c = true then Q true H1 else u σ H1 Q
def tNot (t : TT) : TT := fun σ H Q => t σ H fun c H1 => Q (!c) H1
theorem pw_and1 (ha : PT X a tA) : PW X (.BoolOp .And [a] pos) tA := by
  intro wh pins s σ H Q I h
  refine isTrue_and (thn (ha pins s σ H Q I h) fun c s1 e => ?_)
  cases c with
  | true => exact isTrue_and_nil e
  | false => exact e
theorem pw_or1 (ha : PT X a tA) : PW X (.BoolOp .Or [a] pos) tA := by
  intro wh pins s σ H Q I h
  refine isTrue_or (thn (ha pins s σ H Q I h) fun c s1 e => ?_)
  cases c with
  | false => exact isTrue_or_nil e
  | true => exact e
theorem pw_and (ha : PT X a tA) (hb : PW X (.BoolOp .And (b :: rest) pos) tB') : PW X (.BoolOp .And (a :: b :: rest) pos) (tAnd tA tB') := by
  intro wh pins s σ H Q I h
  refine isTrue_and (thn (ha pins s σ H _ I h) fun c s1 ⟨H1, I1, q1⟩ => ?_)
  cases c with
  | true => exact hb wh pins s1 σ H1 Q I1 q1
  | false => exact ⟨H1, I1, q1⟩
theorem pw_or (ha : PT X a tA) (hb : PW X (.BoolOp .Or (b :: rest) pos) tB') : PW X (.BoolOp .Or (a :: b :: rest) pos) (tOr tA tB') := by
  intro wh pins s σ H Q I h
  refine isTrue_or (thn (ha pins s σ H _ I h) fun c s1 ⟨H1, I1, q1⟩ => ?_)
  cases c with
  | true => exact ⟨H1, I1, q1⟩
  | false => exact hb wh pins s1 σ H1 Q I1 q1
theorem pt_not (ha : PT X a tA) : PT X (.UnaryOp .Not a pos) (tNot tA) := by
  intro pins s σ H Q I h
  exact isTrue_not (ha pins s σ H (fun c H1 => Q (!c) H1) I h)
def tAndV (ta tb : TE) : TE := fun σ H Q => ta σ H fun x H1 => ∃ c, x = .bl c ∧ if c = true then tb σ H1 Q else Q (.bl false) H1
def tOrV (ta tb : TE) : TE := fun σ H Q => ta σ H fun x H1 => ∃ c, x = .bl c ∧ if c = true then Q (.bl true) H1 else tb σ H1 Q
def tNotV (ta : TE) : TE := fun σ H Q => ta σ H fun x H1 => ∃ c, x = .bl c ∧ Q (.bl (!c)) H1
theorem pe_one {op} {t : TE} (h : PE X a t) : PE X (.BoolOp op [a] pos) t := fun pins s σ H Q I hw => BoolOp_one (h pins s σ H Q I hw)
theorem pe_and (ha : PE X a ta) (hb : PE X (.BoolOp .And (b :: rest) pos) tb) : PE X (.BoolOp .And (a :: b :: rest) pos) (tAndV ta tb) := by
  intro pins s σ H Q I h
  refine BoolOp_and (thn (ha pins s σ H _ I h) fun v s1 ⟨x, H1, I1, r1, q1⟩ => ?_)
  obtain ⟨c, rfl, q1⟩ := q1
  cases r1
  refine wpAny_truthy_bool ?_
  cases c with
  | true => exact hb pins s1 σ H1 Q I1 q1
  | false => exact ⟨.bl false, H1, I1, rfl, q1⟩
theorem pe_or (ha : PE X a ta) (hb : PE X (.BoolOp .Or (b :: rest) pos) tb) : PE X (.BoolOp .Or (a :: b :: rest) pos) (tOrV ta tb) := by
  intro pins s σ H Q I h
  refine BoolOp_or (thn (ha pins s σ H _ I h) fun v s1 ⟨x, H1, I1, r1, q1⟩ => ?_)
  obtain ⟨c, rfl, q1⟩ := q1
  cases r1
  refine wpAny_truthy_bool ?_
  cases c with
  | false => exact hb pins s1 σ H1 Q I1 q1
  | true => exact ⟨.bl true, H1, I1, rfl, q1⟩
theorem pe_not (ha : PE X a ta) : PE X (.UnaryOp .Not a pos) (tNotV ta) := by
  intro pins s σ H Q I h
  refine UnaryOp_ (thn (ha pins s σ H _ I h) fun v s1 ⟨x, H1, I1, r1, q1⟩ => ?_)
  obtain ⟨c, rfl, q1⟩ := q1
  cases r1
  exact not_of (wpAny_truthy_bool ⟨.bl (!c), H1, I1, rfl, q1⟩)
def tIf (t : TT) (ta tb : TE) : TE := fun σ H Q => t σ H fun c H1 => if c = true then ta σ H1 Q else tb σ H1 Q
theorem pe_ifExp {c : Expr} (hc : PT X c tA) (ha : PE X a ta) (hb : PE X b tb) : PE X (.IfExp c a b pos) (tIf tA ta tb) := by
  intro pins s σ H Q I h
  refine wpAny_IfExp (thn (hc pins s σ H _ I h) fun d s1 ⟨H1, I1, q1⟩ => ?_)
  cases d with
  | true => exact ha pins s1 σ H1 Q I1 q1
  | false => exact hb pins s1 σ H1 Q I1 q1
end
end L2
namespace L2
open PySem PySem.Spec PyProof.Rows
def SqL (K : PySem.W.Frag) (H : Hp) (a : Addr) (xs : List V) : Prop :=
  Rd H a (.lst xs) ∨
    ∃ (o : Obj) (its : Array Value) (n : Nat), K.lookup a = some o ∧ o.cls = .type "list" ∧ o.dict = none ∧ o.data = .seq its n ∧ its.size ≤ sizeLine ∧ Vals xs its.toList
def SqT (K : PySem.W.Frag) (H : Hp) (a : Addr) (xs : List V) : Prop :=
  Rd H a (.tup xs) ∨
    ∃ (o : Obj) (its : Array Value) (n : Nat), K.lookup a = some o ∧ TupC o ∧ o.data = .seq its n ∧ its.size ≤ sizeLine ∧ Vals xs its.toList
def absV : Value → Option V
  | .none => some .non
  | .bool b => some (.bl b)
  | .int i _ => some (.int i)
  | .str x _ => some (.str x)
  | .bytes b _ => some (.byt b)
  | .float b _ => some (.flt b)
  | .ref a => some (.ref a)
  | .type n => some (.ty n)
  | _ => none
theorem RelV.abs {x : V} {u : Value} (r : RelV x u) : absV u = some x := by
  cases x with
  | non => cases r; rfl
  | bl _ => cases r; rfl
  | int _ => obtain ⟨t, rfl⟩ := r; rfl
  | str _ => obtain ⟨t, rfl⟩ := r; rfl
  | byt _ => obtain ⟨t, rfl⟩ := r; rfl
  | flt _ => obtain ⟨t, rfl⟩ := r; rfl
  | ref _ => cases r; rfl
  | ty _ => cases r; rfl
theorem RelV.inj {x y : V} {u : Value} (r : RelV x u) (q : RelV y u) : x = y := Option.some.inj (r.abs.symm.trans q.abs)
theorem Vals.inj : ∀ {xs ys : List V} {us : List Value}, Vals xs us → Vals ys us → xs = ys
  | _, _, _, .nil, .nil => rfl
  | _, _, _, .cons r t, .cons r' t' => by rw [r.inj r', Vals.inj t t']
section
variable {X : Cx} {pins : List (Addr × Obj)} {σ : St} {H : Hp} {s : Shared} {a : Addr} {xs ys : List V}
theorem SqL.of {K : PySem.W.Frag} (h : H a = some (.lst xs)) : SqL K H a xs := .inl (.inl h)
theorem Inv.list (I : Inv X pins σ H s) (h : SqL X.K H a xs) : ∃ its : List Value, Vals xs its ∧ PlainL s.heap a its.toArray ∧ xs.length ≤ sizeLine := by
  rcases h with h | ⟨o, its, n, hk, hc, hd, hs, hz, r⟩
  · obtain ⟨z, its, n, r, e⟩ := h.ok I.hok
    exact ⟨its, r, ⟨_, n, e, rfl, rfl, rfl⟩, z⟩
  · refine ⟨its.toList, r, ⟨o, n, I.kIn a o hk, hc, hd, by simpa using hs⟩, ?_⟩
    have e := r.length
    simp only [Array.length_toList] at e
    omega
theorem Inv.tuple (I : Inv X pins σ H s) (h : SqT X.K H a xs) : ∃ its : List Value, Vals xs its ∧ IsTup s.heap a its.toArray ∧ xs.length ≤ sizeLine := by
  rcases h with h | ⟨o, its, n, hk, hc, hs, hz, r⟩
  · obtain ⟨z, its, r, p⟩ := h.ok I.hok
    exact ⟨its, r, p.tup, z⟩
  · refine ⟨its.toList, r, ⟨o, I.kIn a o hk, hc.1, n, by simpa using hs⟩, ?_⟩
    have e := r.length
    simp only [Array.length_toList] at e
    omega
theorem Inv.tupleX (I : Inv X pins σ H s) (h : SqT X.K H a xs) : ∃ its : List Value, Vals xs its ∧ IsTupX s.heap a its.toArray ∧ xs.length ≤ sizeLine := by
  rcases h with h | ⟨o, its, n, hk, hc, hs, hz, r⟩
  · obtain ⟨z, its, r, p⟩ := h.ok I.hok
    exact ⟨its, r, p, z⟩
  · refine ⟨its.toList, r, ⟨o, I.kIn a o hk, hc, n, by simpa using hs⟩, ?_⟩
    have e := r.length
    simp only [Array.length_toList] at e
    omega
theorem Inv.list_inj (I : Inv X pins σ H s) (h : SqL X.K H a xs) (h' : SqL X.K H a ys) : xs = ys := by
  obtain ⟨its, r, ⟨o, n, e, _, _, d⟩, _⟩ := I.list h
  obtain ⟨its', r', ⟨o', n', e', _, _, d'⟩, _⟩ := I.list h'
  rw [e] at e'; cases e'
  rw [d] at d'
  injection d' with d1 _
  have : its = its' := by simpa using congrArg Array.toList d1
  subst this
  exact r.inj r'
theorem Inv.tuple_inj (I : Inv X pins σ H s) (h : SqT X.K H a xs) (h' : SqT X.K H a ys) : xs = ys := by
  obtain ⟨its, r, ⟨o, e, _, n, d⟩, _⟩ := I.tuple h
  obtain ⟨its', r', ⟨o', e', _, n', d'⟩, _⟩ := I.tuple h'
  rw [e] at e'; cases e'
  rw [d] at d'
  injection d' with d1 _
  have : its = its' := by simpa using congrArg Array.toList d1
  subst this
  exact r.inj r'
end
abbrev Cx.wish (X : Cx) (E : Value → Shared → Prop) : Cx := { X with xe := E }
abbrev Cx.nox (X : Cx) : Cx := X.wish fun _ _ => False
theorem Cx.Ok.wish {X : Cx} (ok : X.Ok) (E : Value → Shared → Prop) : (X.wish E).Ok :=
  ⟨ok.mod, ok.kind, ok.glob, ok.blt, ok.above, ok.inj, ok.has, ok.cab, ok.hd, ok.frames, ok.stk, ok.exf, ok.bs, ok.bsz, ok.noex, ok.exfs, ok.funs, ok.frf⟩
theorem Cx.Ok.unwish {X : Cx} {E : Value → Shared → Prop} (ok : (X.wish E).Ok) : X.Ok :=
  ⟨ok.mod, ok.kind, ok.glob, ok.blt, ok.above, ok.inj, ok.has, ok.cab, ok.hd, ok.frames, ok.stk, ok.exf, ok.bs, ok.bsz, ok.noex, ok.exfs, ok.funs, ok.frf⟩
section
variable {X : Cx} {pins : List (Addr × Obj)} {σ : St} {H : Hp} {s : Shared} {E : Value → Shared → Prop}
theorem Inv.wish (I : Inv X pins σ H s) (E : Value → Shared → Prop) : Inv (X.wish E) pins σ H s := ⟨I.ok.wish E, I.os, I.bare, I.base, I.loc, I.cell, I.free, I.freeC, I.pin, I.hok, I.len⟩
theorem Inv.unwish (I : Inv (X.wish E) pins σ H s) : Inv X pins σ H s := ⟨I.ok.unwish, I.os, I.bare, I.base, I.loc, I.cell, I.free, I.freeC, I.pin, I.hok, I.len⟩
theorem SP.unwish {D : Ends} {f : Flow} {s' : Shared} (h : SP (X.wish E) pins D f s') : SP X pins D f s' := by
  cases f with
  | next => obtain ⟨σ', H', I, q⟩ := h; exact ⟨σ', H', I.unwish, q⟩
  | brk => obtain ⟨σ', H', I, q⟩ := h; exact ⟨σ', H', I.unwish, q⟩
  | cont => obtain ⟨σ', H', I, q⟩ := h; exact ⟨σ', H', I.unwish, q⟩
  | ret u => obtain ⟨v, σ', H', I, r, q⟩ := h; exact ⟨v, σ', H', I.unwish, r, q⟩
theorem PSs.nox {st : List Stmt} {t : TS} (h : PSs X.nox st t) : PSs X st t := fun pins s σ H D I hw =>
  wpAny_mono (h pins s σ H D (I.wish _) hw) (fun _ _ q => q.unwish) fun _ _ z => False.elim z
end
section
variable {X : Cx} {st : Stmt} {rest : List Stmt} {t u : TS} {e : Expr} {te : TE} {pos : Pos}
def tNext : TS := fun D σ H => D.nx σ H
def tSeq (t u : TS) : TS := fun D σ H => t { D with nx := u D } σ H
theorem pss_nil : PSs X [] tNext := fun _ _ σ H _ I h => wpAny_execs_nil ⟨σ, H, I, h⟩
theorem pss_cons (h1 : PS X st t) (h2 : PSs X rest u) : PSs X (st :: rest) (tSeq t u) := by
  intro pins s σ H D I h
  refine wpAny_execs_cons (thn (h1 pins s σ H { D with nx := u D } I h) fun f s1 q => ?_)
  cases f with
  | next =>
    obtain ⟨σ', H', I', q⟩ := q
    exact h2 pins s1 σ' H' D I' q
  | ret v => exact q
  | brk => exact q
  | cont => exact q
theorem pss_one (h1 : PS X st t) : PSs X [st] t := by
  intro pins s σ H D I h
  refine wpAny_execs_cons (thn (h1 pins s σ H D I h) fun f s1 q => ?_)
  cases f with
  | next => exact wpAny_execs_nil q
  | ret v => exact q
  | brk => exact q
  | cont => exact q
def tRet (te : TE) : TS := fun D σ H => te σ H D.rt
theorem ps_ret (he : PE X e te) : PS X (.Return (some e) pos) (tRet te) := by
  intro pins s σ H D I h
  exact wpAny_Return_some (thn (he pins s σ H _ I h) fun v s1 ⟨x, H1, I1, r1, q1⟩ => ⟨x, σ, H1, I1, r1, q1⟩)
def tIfS (c : TT) (t u : TS) : TS := fun D σ H => c σ H fun b H1 => if b = true then t D σ H1 else u D σ H1
theorem ps_if {c : Expr} {a b : List Stmt} {tc : TT} (hc : PT X c tc) (ha : PSs X a t) (hb : PSs X b u) : PS X (.If c a b pos) (tIfS tc t u) := by
  intro pins s σ H D I h
  refine wpAny_If (thn (hc pins s σ H _ I h) fun d s1 ⟨H1, I1, q1⟩ => ?_)
  cases d with
  | true => exact ha pins s1 σ H1 D I1 q1
  | false => exact hb pins s1 σ H1 D I1 q1
end
abbrev TG := V → St → Hp → (St → Hp → Prop) → Prop
abbrev TGs := List V → St → Hp → (St → Hp → Prop) → Prop
def PG (X : Cx) (target : Expr) (t : TG) : Prop :=
  ∀ (pins : List (Addr × Obj)) (s : Shared) (σ : St) (H : Hp) (v : V) (u : Value) (Q : St → Hp → Prop), Inv X pins σ H s → RelV v u → t v σ H Q →
    wpAny (model X.prog X.w) X.A (assign target X.env u) (fun _ s' => ∃ σ' H', Inv X pins σ' H' s' ∧ Q σ' H') X.xe s
def PGs (X : Cx) (ts : List Expr) (t : TGs) : Prop :=
  ∀ (pins : List (Addr × Obj)) (s : Shared) (σ : St) (H : Hp) (vs : List V) (us : List Value) (Q : St → Hp → Prop), Inv X pins σ H s → Vals vs us → t vs σ H Q →
    wpAny (model X.prog X.w) X.A (assignInOrder ((assignEach ts X.env).map (·.2)) us) (fun _ s' => ∃ σ' H', Inv X pins σ' H' s' ∧ Q σ' H') X.xe s
abbrev TSet := V → V → V → Hp → (Hp → Prop) → Prop
def PSet (X : Cx) (t : TSet) : Prop :=
  ∀ (pins : List (Addr × Obj)) (s : Shared) (σ : St) (H : Hp) (o i v : V) (ov iv u : Value) (Q : Hp → Prop), Inv X pins σ H s → RelV o ov → RelV i iv → RelV v u → t o i v H Q →
    wpAny (model X.prog X.w) X.A (setItem ov iv u) (fun _ s' => ∃ H', Inv X pins σ H' s' ∧ Q H') X.xe s
section
variable {X : Cx} {pos : Pos}
def gName (i : Nat) : TG := fun v σ H Q => Q (σ.set i (some v)) H
theorem pg_name {i : Nat} {x : Str} (hN : X.N.Nodup) (hi : X.N[i]? = some x) (hx : Loc X.env.scope x) (hf : X.fn x = true ∨ X.env.scope.names.lookup x = some .local := by first | exact .inl rfl | exact .inr rfl | assumption) : PG X (.Name x pos) (gName i) := by
  intro pins s σ H v u Q I r h
  exact wpAny_assign_Name (store_ok I hN hi hx r (fun s' I' => ⟨_, H, I', h⟩) hf)
def gNil : TGs := fun vs σ H Q => vs = [] ∧ Q σ H
def gCons (t : TG) (u : TGs) : TGs := fun vs σ H Q => ∃ v r, vs = v :: r ∧ t v σ H fun σ' H' => u r σ' H' Q
theorem pgs_nil : PGs X [] gNil := by
  intro pins s σ H vs us Q I r h
  obtain ⟨e, h⟩ := h
  subst e
  cases r
  exact assignInOrder_nil ⟨σ, H, I, h⟩
theorem pgs_cons {e : Expr} {es : List Expr} {t : TG} {u : TGs} (h1 : PG X e t) (h2 : PGs X es u)
    (hs : (assignEach (e :: es) X.env).map (·.2) = assign e X.env :: (assignEach es X.env).map (·.2) := by rfl) : PGs X (e :: es) (gCons t u) := by
  intro pins s σ H vs us Q I r h
  obtain ⟨v, vr, e1, h⟩ := h
  subst e1
  cases r with
  | cons r rr =>
    rw [hs]
    refine assignInOrder_cons (thn (h1 pins s σ H _ _ _ I r h) fun _ s1 ⟨σ1, H1, I1, q1⟩ => ?_)
    exact h2 pins s1 σ1 H1 _ _ Q I1 rr q1
def gTup (K : PySem.W.Frag) (n : Nat) (t : TGs) : TG := fun v σ H Q => ∃ a xs, v = .ref a ∧ SqT K H a xs ∧ xs.length = n ∧ t xs σ H Q
theorem pg_tup {es : List Expr} {k : Nat} {t : TGs} {n : Nat} (hc : X.calm = true) (h : PGs X es t)
    (hn : (assignEach es X.env).length = n := by rfl) (hst : (assignEach es X.env).findIdx? (·.1) = none := by rfl) : PG X (.Tuple es k pos) (gTup X.K n t) := by
  intro pins s σ H v u Q I r hw
  obtain ⟨a, xs, e1, hq, hl, hw⟩ := hw
  subst e1
  cases r
  obtain ⟨its, rv, ht, hz⟩ := I.tuple hq
  refine assign_Tuple_tuple (I.ok.hd hc) ht (by simp [hn, ← hl, rv.length]) hst fun h' hx => ?_
  have I1 : Inv X pins σ H { s with heap := h' } := I.kept (t' := s.toks) fun b o e => hx b o (Nat.ne_of_lt (Heap.lt_size e)) e
  exact h pins _ σ H xs _ Q I1 (by simpa using rv) hw
def gSub (to ti : TE) (t : TSet) : TG := fun v σ H Q => to σ H fun o H1 => ti σ H1 fun i H2 => t o i v H2 fun H3 => Q σ H3
theorem pg_sub {o i : Expr} {to ti : TE} {t : TSet} (ho : PE X o to) (hi : PE X i ti) (hs : PSet X t)
    (ha : ∀ v, assign (.Subscript o i pos) X.env v = (do
      let ov ← holding [v] (eval o X.env)
      let iv ← holding [v, ov] (eval i X.env)
      standAt pos
      holding [v, ov, iv] (setItem ov iv v)
      release [v, ov, iv] []) := by intro _; rfl) : PG X (.Subscript o i pos) (gSub to ti t) := by
  intro pins s σ H v u Q I r h
  rw [ha]
  refine wpAny_bind (wpAny_holding (thn (ho pins s σ H _ I h) fun ov s1 ⟨x, H1, I1, r1, q1⟩ => ?_))
  refine wpAny_bind (wpAny_holding (thn (hi pins s1 σ H1 _ I1 q1) fun iv s2 ⟨y, H2, I2, r2, q2⟩ => ?_))
  refine wpAny_bind (wpAny_standAt (wpAny_bind (wpAny_holding (thn (hs pins s2 σ H2 x y v ov iv u _ I2 r1 r2 r q2) fun _ s3 ⟨H3, I3, q3⟩ => ?_))))
  exact wpAny_release ⟨σ, H3, I3, q3⟩
def tAsg (te : TE) (g : TG) : TS := fun D σ H => te σ H fun x H1 => g x σ H1 D.nx
theorem ps_asg {tg e : Expr} {te : TE} {g : TG} (he : PE X e te) (hg : PG X tg g) (hs : swapsWithSole [tg] e pos.line X.env = pure false := by rfl) (hw : swappedStores [tg] e X.env = pure none := by rfl)
    (h1 : (assignEach [tg] X.env).map (·.2) = [assign tg X.env] := by rfl) : PS X (.Assign [tg] e pos) (tAsg te g) := by
  intro pins s σ H D I h
  refine wpAny_Assign_stores (thn (he pins s σ H _ I h) fun v s1 ⟨x, H1, I1, r1, q1⟩ => ?_) hs hw
  rw [h1]
  exact thn (hg pins s1 σ H1 x v _ I1 r1 q1) fun _ s2 q => q
theorem ps_set {i : Nat} {x : Str} {e : Expr} {te : TE} {pos' : Pos} (hN : X.N.Nodup) (hi : X.N[i]? = some x) (hx : Loc X.env.scope x) (he : PE X e te) (hs : swapsWith e (some (.Name x pos')) pos.line X.env = pure false := by rfl) (hf : X.fn x = true ∨ X.env.scope.names.lookup x = some .local := by first | exact .inl rfl | exact .inr rfl | assumption) :
    PS X (.Assign [.Name x pos'] e pos) (tAsg te (gName i)) := by
  intro pins s σ H D I h
  refine wpAny_Assign_Name (thn (he pins s σ H _ I h) fun v s1 ⟨y, H1, I1, r1, q1⟩ => ?_) hs
  exact store_ok I1 hN hi hx r1 (fun s2 I2 => ⟨_, H1, I2, q1⟩) hf
def tPar (i j : Nat) (ta : TA) : TS := fun D σ H => ta σ H fun vs H1 => ∃ v w, vs = [v, w] ∧ D.nx ((σ.set i (some v)).set j (some w)) H1
theorem ps_par {i j : Nat} {x y : Str} {a b : Expr} {ta : TA} {px py pt : Pos} {kt k2 pt2} (hc : X.calm = true) (hN : X.N.Nodup) (hi : X.N[i]? = some x) (hj : X.N[j]? = some y) (hij : i ≠ j)
    (hx : X.env.scope.names.lookup x = some .local) (hy : X.env.scope.names.lookup y = some .local) (ha : PA X [a, b] ta)
    (hw : swappedStores [.Tuple [.Name x px, .Name y py] kt pt] (.Tuple [a, b] k2 pt2) X.env = pure (some [x, y]))
    (hs : swapsWithSole [.Tuple [.Name x px, .Name y py] kt pt] (.Tuple [a, b] k2 pt2) pos.line X.env = pure false := by rfl) :
    PS X (.Assign [.Tuple [.Name x px, .Name y py] kt pt] (.Tuple [a, b] k2 pt2) pos) (tPar i j ta) := by
  intro pins s σ H D I h
  rw [exec_Assign_arm]
  refine wpAny_bind (wpAny_standAt ?_)
  rw [hs]
  refine wpAny_bind (wpAny_pure ?_)
  rw [if_neg (by decide)]
  refine wpAny_bind (Tuple_ (thn (ha _ pins s σ H _ I h) fun us s1 ⟨vs, H1, I1, r1, q1⟩ => ?_))
  obtain ⟨v, w, e1, q1⟩ := q1
  subst e1
  obtain ⟨u1, u2, rfl, rv, rw'⟩ : ∃ u1 u2, us = [u1, u2] ∧ RelV v u1 ∧ RelV w u2 := by
    cases r1 with
    | cons p q =>
      cases q with
      | cons p' q' =>
        cases q'
        exact ⟨_, _, rfl, p, p'⟩
  refine wpAny_newObj_type ?_ (by show 2 ≤ sizeLine; decide)
  have I2 : Inv X pins σ H1 { s1 with heap := s1.heap.push { cls := .type "tuple", data := .seq [u1, u2].toArray } } := I1.kept (t' := s1.toks) fun b o e => Heap.get?_push_of_some _ e
  rw [hw]
  refine wpAny_bind (wpAny_pure ?_)
  show wpAny (model X.prog X.w) X.A (do rule "assign.swapped-stores"; let items ← unpackItems (.ref s1.heap.objs.size) 2 none; assignInOrder [fun v => bindName X.env y v, fun v => bindName X.env x v] items.reverse; pure Flow.next) _ _ _
  refine wpAny_bind (wpAny_rule (wpAny_bind (unpackItems_tuple (items := #[u1, u2]) (I.ok.hd hc) (IsTup.new s1.heap _) fun h' hx' => ?_)))
  have I3 := I2.kept (h' := h') (t' := s1.toks) fun b o e => hx' b o (Nat.ne_of_lt (Heap.lt_size e)) e
  show wpAny _ _ (assignInOrder [fun v => bindName X.env y v, fun v => bindName X.env x v] [u2, u1] >>= fun _ => pure Flow.next) _ _ _
  refine wpAny_bind (assignInOrder_cons (wpAny_bindName (store_ok I3 hN hj (.inl hy) rw' (fun s2 I4 => ?_) (.inr hy))))
  refine assignInOrder_cons (wpAny_bindName (store_ok I4 hN hi (.inl hx) rv (fun s3 I5 => assignInOrder_nil (wpAny_pure ?_)) (.inr hx)))
  rw [List.set_comm _ _ (Ne.symm hij)] at I5
  exact ⟨_, H1, I5, q1⟩
end
structure It where
  go : Nat → Hp → Prop
  yld : Nat → Hp → V → Hp → Prop
  stop : Nat → Hp → Prop
def FpOk (X : Cx) (pins : List (Addr × Obj)) (H : Hp) (b : Addr) : Prop :=
  H b = none ∧ b ≠ X.env.locals ∧ b ∉ X.fs ∧ (b ∈ X.ex ∨ X.s₀.heap.objs.size ≤ b) ∧ (∀ x c, X.env.cells.lookup x = some c → c ≠ b) ∧ ∀ p ∈ X.pn ++ pins, p.1 ≠ b
theorem Inv.fpOk {X : Cx} {pins : List (Addr × Obj)} {σ : St} {H H' : Hp} {s : Shared} {b : Addr} (I : Inv X pins σ H s) (hb : s.heap.objs.size ≤ b) (hn : H' b = none) : FpOk X pins H' b := by
  refine ⟨hn, Nat.ne_of_gt (Nat.lt_of_lt_of_le I.lt hb), I.nofs hb, .inr (Nat.le_trans I.sz hb), fun x c e z => ?_, fun p hp z => ?_⟩
  · obtain ⟨v, q⟩ := I.cell x c e
    exact absurd (Nat.lt_of_lt_of_le q.lt (by rw [z]; exact hb)) (Nat.lt_irrefl _)
  · exact absurd (Nat.lt_of_lt_of_le (Heap.lt_size (I.pin p hp).1) (by rw [z]; exact hb)) (Nat.lt_irrefl _)
structure Turn (P : Program) (w : World) (K : PySem.W.Frag) (tg : Expr) (J : It) (fp : List Addr) (it : Addr) (tn : Nat → Heap → Prop) : Prop where
  mem : it ∈ fp
  obj : ∀ i h, tn i h → ∀ b ∈ fp, ∃ o, h.get? b = some o ∧ ∀ v, o.data ≠ .cell v
  keep : ∀ i h h', tn i h → (∀ b ∈ fp, ∀ o, h.get? b = some o → h'.get? b = some o) → tn i h'
  item : ∀ (X : Cx), X.prog = P → X.w = w → X.K = K → X.calm = true → ∀ (i : Nat) (pins : List (Addr × Obj)) (s : Shared) (σ : St) (H : Hp) (E : Value → Shared → Prop), Inv X pins σ H s → (∀ b ∈ fp, FpOk X pins H b) → tn i s.heap → J.go i H →
    wpAny (model P w) X.A (pyNext (.ref it)) (fun r s1 => ∃ u, r = some u ∧
      wpAny (model P w) X.A (letOwnedTupleGo tg (.ref it) u) (fun _ s2 => ∃ x H', Inv X pins σ H' s2 ∧ RelV x u ∧ J.yld i H x H' ∧ tn (i + 1) s2.heap ∧ ∀ b ∈ fp, H' b = none) E s1) E s
  done : ∀ (X : Cx), X.prog = P → X.w = w → X.K = K → X.calm = true → ∀ (i : Nat) (pins : List (Addr × Obj)) (s : Shared) (σ : St) (H : Hp) (E : Value → Shared → Prop), Inv X pins σ H s → (∀ b ∈ fp, FpOk X pins H b) → tn i s.heap → J.stop i H →
    wpAny (model P w) X.A (pyNext (.ref it)) (fun r s1 => r = none ∧ Inv X pins σ H s1) E s
  self : ∀ (A : Around) (i : Nat) (s : Shared) (Q : Value → Shared → Prop) (E : Value → Shared → Prop), tn i s.heap → Q (.ref it) s → wpAny (model P w) A (pyIter (.ref it)) Q E s
abbrev TI := St → Hp → (It → Hp → Prop) → Prop
def PIE (X : Cx) (pins : List (Addr × Obj)) (σ : St) (tg : Expr) (R : It → Hp → Prop) (itv : Value) (s2 : Shared) : Prop :=
  ∃ (it : Addr) (fp : List Addr) (tn : Nat → Heap → Prop) (J : It) (H' : Hp), itv = .ref it ∧ Inv X pins σ H' s2 ∧ Turn X.prog X.w X.K tg J fp it tn ∧ tn 0 s2.heap ∧ (∀ b ∈ fp, FpOk X pins H' b) ∧ R J H'
def PI (X : Cx) (tg iter : Expr) (wi : TI) : Prop :=
  ∀ (pins : List (Addr × Obj)) (s : Shared) (σ : St) (H : Hp) (R : It → Hp → Prop), Inv X pins σ H s → wi σ H R →
    wpAny (model X.prog X.w) X.A (eval iter X.env) (fun v s1 => wpAny (model X.prog X.w) X.A (pyIter v) (PIE X pins σ tg R) X.xe s1) X.xe s

theorem go_of {M : Model} {A : Around} {E : Value → Shared → Prop} {s : Shared} {tg : Expr} {it : Addr} {u : Value} {o : Obj} {n : String} {vs : Array Value} {Q : Unit → Shared → Prop} (ho : s.heap.get? it = some o) (hc : o.cls = .type n) (hd : o.data = .fields vs)
    (hn : ["enumerate", "zip", "dict_itemiterator", "dict_reverseitemiterator", "odict_iterator", "itertools.zip_longest", "itertools.pairwise"].contains n = false) (hQ : Q () s) : wpAny M A (letOwnedTupleGo tg (.ref it) u) Q E s := by
  unfold letOwnedTupleGo
  cases tg <;> first
    | exact wpAny_pure hQ
    | (cases u <;> first
        | exact wpAny_pure hQ
        | (refine wpAny_bind (wpAny_load ho ?_)
           rw [hc, hd]
           show wpAny M A (if (["enumerate", "zip", "dict_itemiterator", "dict_reverseitemiterator", "odict_iterator", "itertools.zip_longest", "itertools.pairwise"].contains n && vs[0]? == some (rawInt _)) = true then _ else _) Q E s
           rw [if_neg (by intro h; rw [hn, Bool.false_and] at h; cases h)]
           exact wpAny_pure hQ))

def Itl (K : PySem.W.Frag) (a : Addr) : It :=
  ⟨fun i H => ∃ xs x, SqL K H a xs ∧ xs[i]? = some x, fun i H x H' => H' = H ∧ ∀ xs, SqL K H a xs → xs[i]? = some x, fun i H => ∃ xs, SqL K H a xs ∧ xs.length ≤ i⟩
def Itt (K : PySem.W.Frag) (a : Addr) : It :=
  ⟨fun i H => ∃ xs x, SqT K H a xs ∧ xs[i]? = some x, fun i H x H' => H' = H ∧ ∀ xs, SqT K H a xs → xs[i]? = some x, fun i H => ∃ xs, SqT K H a xs ∧ xs.length ≤ i⟩
def Itr (lo : Int) (n : Nat) : It := ⟨fun i _ => i < n, fun i H x H' => H' = H ∧ x = .int (lo + i), fun i _ => n ≤ i⟩
theorem turn_list {P : Program} {w : World} {K : PySem.W.Frag} {tg : Expr} (a it : Addr) : Turn P w K tg (Itl K a) [it] it (fun i h => h.IsListIter it a i) where
  mem := by simp
  obj := fun i h st b hb => by
    have e : b = it := by simpa using hb
    subst e
    obtain ⟨o, e, c, d⟩ := st
    exact ⟨o, e, fun v z => by rw [d] at z; cases z⟩
  keep := fun i h h' st k => st.at fun o e => k it (by simp) o e
  item := by
    intro X hP hw hK hc i pins s σ H E I hf st hg
    subst hP hw hK
    obtain ⟨xs, x, hq, hx⟩ := hg
    obtain ⟨its, rv, p, hz⟩ := I.list hq
    obtain ⟨u, hu, ru⟩ := rv.get hx
    obtain ⟨f0, f1, f2, f3, f4, f5⟩ := hf it (by simp)
    refine wpAny_pyNext_list_item st p.isList (x := u) (by simpa using hu) fun h' st' sb => ?_
    have I1 : Inv X pins σ H { s with heap := h' } := I.turned (t' := s.toks) (fun b o hb e => (sb.2 b hb).trans e) f0 f1 f3 f4 f5
    obtain ⟨o, e, c, d⟩ := id st'
    exact ⟨u, rfl, go_of (s := { s with heap := h' }) e c d (by decide) ⟨x, H, I1, ru, ⟨rfl, fun ys hy => by rw [I.list_inj hy hq]; exact hx⟩, st', fun b hb => (hf b hb).1⟩⟩
  done := by
    intro X hP hw hK hc i pins s σ H E I hf st hg
    subst hP hw hK
    obtain ⟨xs, hq, hx⟩ := hg
    obtain ⟨its, rv, p, hz⟩ := I.list hq
    obtain ⟨f0, f1, f2, f3, f4, f5⟩ := hf it (by simp)
    have hl := rv.length
    exact wpAny_pyNext_list_end (I.ok.hd hc) st p.isList (by simp; omega) fun h' eb => ⟨rfl, I.turned (t' := s.toks) (fun b o hb e => eb b o hb e) f0 f1 f3 f4 f5⟩
  self := fun _ _ _ _ _ st h => wpAny_pyIter_listiter st h
theorem turn_tuple {P : Program} {w : World} {K : PySem.W.Frag} {tg : Expr} (a it : Addr) : Turn P w K tg (Itt K a) [it] it (fun i h => h.IsTupleIter it a i) where
  mem := by simp
  obj := fun i h st b hb => by
    have e : b = it := by simpa using hb
    subst e
    obtain ⟨o, e, c, d⟩ := st
    exact ⟨o, e, fun v z => by rw [d] at z; cases z⟩
  keep := fun i h h' st k => st.at fun o e => k it (by simp) o e
  item := by
    intro X hP hw hK hc i pins s σ H E I hf st hg
    subst hP hw hK
    obtain ⟨xs, x, hq, hx⟩ := hg
    obtain ⟨its, rv, p, hz⟩ := I.tuple hq
    obtain ⟨u, hu, ru⟩ := rv.get hx
    obtain ⟨f0, f1, f2, f3, f4, f5⟩ := hf it (by simp)
    refine wpAny_pyNext_tuple_item st (show s.heap.IsTuple a its.toArray from p) (x := u) (by simpa using hu) fun h' st' sb => ?_
    have I1 : Inv X pins σ H { s with heap := h' } := I.turned (t' := s.toks) (fun b o hb e => (sb.2 b hb).trans e) f0 f1 f3 f4 f5
    obtain ⟨o, e, c, d⟩ := id st'
    exact ⟨u, rfl, go_of (s := { s with heap := h' }) e c d (by decide) ⟨x, H, I1, ru, ⟨rfl, fun ys hy => by rw [I.tuple_inj hy hq]; exact hx⟩, st', fun b hb => (hf b hb).1⟩⟩
  done := by
    intro X hP hw hK hc i pins s σ H E I hf st hg
    subst hP hw hK
    obtain ⟨xs, hq, hx⟩ := hg
    obtain ⟨its, rv, p, hz⟩ := I.tuple hq
    obtain ⟨f0, f1, f2, f3, f4, f5⟩ := hf it (by simp)
    have hl := rv.length
    exact wpAny_pyNext_tuple_end (I.ok.hd hc) st (show s.heap.IsTuple a its.toArray from p) (by simp; omega) fun h' eb => ⟨rfl, I.turned (t' := s.toks) (fun b o hb e => eb b o hb e) f0 f1 f3 f4 f5⟩
  self := fun _ _ _ _ _ st h => wpAny_pyIter_tupleiter st h
theorem turn_range {P : Program} {w : World} {K : PySem.W.Frag} {tg : Expr} (it : Addr) (lo : Int) (n : Nat) : Turn P w K tg (Itr lo n) [it] it (fun i h => IsRangeIter h it (lo + (i : Nat) * 1) ((n : Int) - (i : Nat)) 1) where
  mem := by simp
  obj := fun i h st b hb => by
    have e : b = it := by simpa using hb
    subst e
    exact ⟨_, st, fun v z => by
      have z' : Data.fields _ = Data.cell v := z
      cases z'⟩
  keep := fun i h h' st k => k it (by simp) _ st
  item := by
    intro X hP hw hK hc i pins s σ H E I hf st hg
    subst hP hw hK
    obtain ⟨f0, f1, f2, f3, f4, f5⟩ := hf it (by simp)
    have W := Walks.range (prog := X.prog) (w := X.w) (I.ok.hd hc) it lo 1 n
    refine W.item i s _ _ hg st fun v h' tk hv st' kk => ?_
    obtain ⟨t, rfl⟩ := hv
    have I1 : Inv X pins σ H { s with heap := h', toks := tk } := I.turned (fun b o hb e => kk b o (by simpa using hb) e) f0 f1 f3 f4 f5
    refine ⟨_, rfl, go_of (s := { s with heap := h', toks := tk }) (n := "range_iterator") st' rfl rfl (by decide) ⟨.int (lo + i), H, I1, ⟨t, ?_⟩, ⟨rfl, rfl⟩, st', fun b hb => (hf b hb).1⟩⟩
    rw [Int.mul_one]
  done := by
    intro X hP hw hK hc i pins s σ H E I hf st hg
    subst hP hw hK
    obtain ⟨f0, f1, f2, f3, f4, f5⟩ := hf it (by simp)
    exact wpAny_pyNext_range_end (I.ok.hd hc) st (by have : n ≤ i := hg; omega) fun h' eb => ⟨rfl, I.turned (t' := s.toks) (fun b o hb e => eb b o hb e) f0 f1 f3 f4 f5⟩
  self := fun _ _ _ _ _ st h => wpAny_pyIter_rangeiter st h
end L2
namespace L2
open PySem PySem.Spec PyProof.Rows
section
variable {X : Cx} {tg : Expr}
def iList (K : PySem.W.Frag) (tl : TE) : TI := fun σ H R => tl σ H fun x H1 => ∃ a, x = .ref a ∧ (∃ xs, SqL K H1 a xs) ∧ R (Itl K a) H1
def iTup (K : PySem.W.Frag) (tl : TE) : TI := fun σ H R => tl σ H fun x H1 => ∃ a, x = .ref a ∧ (∃ xs, SqT K H1 a xs) ∧ R (Itt K a) H1
theorem pi_list {l : Expr} {tl : TE} (hl : PE X l tl) : PI X tg l (iList X.K tl) := by
  intro pins s σ H R I h
  refine thn (hl pins s σ H _ I h) fun v s1 ⟨x, H1, I1, r1, q1⟩ => ?_
  obtain ⟨a, e, ⟨xs, hq⟩, q⟩ := q1
  subst e
  cases r1
  obtain ⟨its, rv, p, hz⟩ := I1.list hq
  refine wpAny_pyIter_list p.isList ?_
  refine ⟨s1.heap.objs.size, [s1.heap.objs.size], _, _, H1, rfl, I1.kept (t' := s1.toks) fun b o e => Heap.get?_push_of_some _ e, turn_list a _, ⟨_, Heap.get?_push_size _ rfl, rfl, rfl⟩, fun b hb => ?_, q⟩
  have e : b = s1.heap.objs.size := by simpa using hb
  subst e
  exact I1.fpOk (Nat.le_refl _) (I1.hok.fresh (Nat.le_refl _))
theorem pi_tup {l : Expr} {tl : TE} (hl : PE X l tl) : PI X tg l (iTup X.K tl) := by
  intro pins s σ H R I h
  refine thn (hl pins s σ H _ I h) fun v s1 ⟨x, H1, I1, r1, q1⟩ => ?_
  obtain ⟨a, e, ⟨xs, hq⟩, q⟩ := q1
  subst e
  cases r1
  obtain ⟨its, rv, p, hz⟩ := I1.tuple hq
  refine wpAny_pyIter_tuple (show s1.heap.IsTuple a its.toArray from p) ?_
  refine ⟨s1.heap.objs.size, [s1.heap.objs.size], _, _, H1, rfl, I1.kept (t' := s1.toks) fun b o e => Heap.get?_push_of_some _ e, turn_tuple a _, ⟨_, Heap.get?_push_size _ rfl, rfl, rfl⟩, fun b hb => ?_, q⟩
  have e : b = s1.heap.objs.size := by simpa using hb
  subst e
  exact I1.fpOk (Nat.le_refl _) (I1.hok.fresh (Nat.le_refl _))
theorem range_it {pins : List (Addr × Obj)} {σ : St} {H : Hp} {s : Shared} {R : It → Hp → Prop} {E : Value → Shared → Prop} {lo hi : Int} {t u v : Tok} {tk : Nat} (I : Inv X pins σ H s) (h1 : -(2 ^ 62) ≤ lo) (h2 : lo < 2 ^ 62) (h3 : -(2 ^ 62) ≤ hi) (h4 : hi < 2 ^ 62)
    (q : R (Itr lo (hi - lo).toNat) H) : wpAny (model X.prog X.w) X.A (pyIter (.ref s.heap.objs.size)) (PIE X pins σ tg R) E { s with heap := s.heap.push { cls := .type "range", data := .fields #[.int lo t, .int hi u, .int 1 v] }, toks := tk } := by
  refine wpAny_pyIter_range (IsRange.new ..) (small_one h1 h2 h3 h4) ?_
  have I1 : Inv X pins σ H { s with heap := s.heap.push { cls := .type "range", data := .fields #[.int lo t, .int hi u, .int 1 v] }, toks := tk } := I.kept fun b o e => Heap.get?_push_of_some _ e
  refine ⟨(s.heap.push { cls := .type "range", data := .fields #[.int lo t, .int hi u, .int 1 v] }).objs.size, [(s.heap.push { cls := .type "range", data := .fields #[.int lo t, .int hi u, .int 1 v] }).objs.size], _, _, H, rfl,
    I1.kept (t' := tk) fun b o e => Heap.get?_push_of_some _ e, turn_range _ lo (hi - lo).toNat, ?_, fun b hb => ?_, q⟩
  · have e1 : lo + ((0 : Nat) : Int) * 1 = lo := by simp
    have e2 : (((hi - lo).toNat : Nat) : Int) - ((0 : Nat) : Int) = Builtin.Range.rangeSize lo hi 1 := by rw [rangeSize_one]; split <;> omega
    show IsRangeIter _ _ (lo + ((0 : Nat) : Int) * 1) ((((hi - lo).toNat : Nat) : Int) - ((0 : Nat) : Int)) 1
    rw [e1, e2]
    exact Heap.get?_push_size _ rfl
  · have e : b = (s.heap.push { cls := .type "range", data := .fields #[.int lo t, .int hi u, .int 1 v] }).objs.size := by simpa using hb
    subst e
    exact I1.fpOk (Nat.le_refl _) (I1.hok.fresh (Nat.le_refl _))
def iRng1 (ta : TA) : TI := fun σ H R => ta σ H fun vs H1 => ∃ j : Int, vs = [.int j] ∧ -(2 ^ 62) ≤ j ∧ j < 2 ^ 62 ∧ R (Itr 0 j.toNat) H1
theorem pi_range1 {a : Expr} {ta : TA} {p pos : Pos} (hg : Gl X "range") (hm : X.mg "range" = none) (ha : PA X [a] ta) (hs : starEach [a] X.env = [(false, eval a X.env)] := by rfl) : PI X tg (.Call (.Name "range" p) [a] [] pos) (iRng1 ta) := by
  intro pins s σ H R I h
  refine Call_ (ld_blt I hg hm boot_range (PyProof.Rows.callWith_type1 (thn (ha pos pins s σ H _ I h) fun us s1 ⟨vs, H1, I1, r1, q1⟩ => ?_) hs rfl))
  obtain ⟨j, e, q1, q2, q⟩ := q1
  subst e
  cases r1 with
  | cons r rr =>
    cases rr
    obtain ⟨t, rfl⟩ := r
    exact call_range_1 (range_it I1 (by omega) (by omega) q1 q2 (by simpa using q))
def tFor (wi : TI) (g : TG) (tb : TS) : TS := fun D σ H => wi σ H fun J H1 => ∃ W : Nat → Nat → St → Hp → Prop, (∃ m, W 0 m σ H1) ∧ ∀ i m σ H, W i m σ H →
  (J.stop i H ∧ D.nx σ H) ∨ (J.go i H ∧ ∃ N : St → Hp → Prop, (∀ σ' H', N σ' H' → ∃ m', m' < m ∧ W (i + 1) m' σ' H') ∧ ∀ x H', J.yld i H x H' → g x σ H' fun σ2 H2 => tb { D with nx := N, ct := N, bk := D.nx } σ2 H2)
def pinsAt (fp : List Addr) (h : Heap) : List (Addr × Obj) := fp.filterMap fun b => (h.get? b).map fun o => (b, o)
theorem mem_pinsAt {fp : List Addr} {h : Heap} {b : Addr} {o : Obj} (hb : b ∈ fp) (e : h.get? b = some o) : (b, o) ∈ pinsAt fp h := List.mem_filterMap.mpr ⟨b, hb, by rw [e]; rfl⟩
theorem of_pinsAt {fp : List Addr} {h : Heap} {p : Addr × Obj} (hp : p ∈ pinsAt fp h) : p.1 ∈ fp ∧ h.get? p.1 = some p.2 := by
  obtain ⟨b, hb, e⟩ := List.mem_filterMap.mp hp
  cases q : h.get? b with
  | none => rw [q] at e; cases e
  | some o =>
    rw [q] at e
    have e' : (b, o) = p := Option.some.inj e
    subst e'
    exact ⟨hb, q⟩
theorem Inv.pinned {pins : List (Addr × Obj)} {σ : St} {H : Hp} {s : Shared} {fp : List Addr} (I : Inv X pins σ H s) (hf : ∀ b ∈ fp, FpOk X pins H b) (ho : ∀ b ∈ fp, ∃ o, s.heap.get? b = some o ∧ ∀ v, o.data ≠ .cell v) : Inv X (pins ++ pinsAt fp s.heap) σ H s :=
  I.pins_of fun p hp => (List.mem_append.mp hp).elim (fun z => I.pin p (List.mem_append_right _ z)) fun z => by
    obtain ⟨hb, e⟩ := of_pinsAt z
    obtain ⟨f0, f1, f2, _⟩ := hf p.1 hb
    obtain ⟨o, e', d⟩ := ho p.1 hb
    rw [e] at e'; cases e'
    exact ⟨e, f0, f1, f2, d⟩
theorem Inv.unpinned {pins pl : List (Addr × Obj)} {σ : St} {H : Hp} {s : Shared} (I : Inv X (pins ++ pl) σ H s) : Inv X pins σ H s := I.pins_of fun p hp => I.pin p (List.mem_append_right _ (List.mem_append_left _ hp))
theorem ps_for {iter : Expr} {body : List Stmt} {wi : TI} {g : TG} {tb : TS} {pos : Pos} (hp : PassesOwn (model X.prog X.w) X.A X.env X.xe) (hc : X.calm = true) (hi : PI X tg iter wi) (hg : PG X tg g) (hb : PSs X body tb)
    (hs : ∀ x, foldedSetIterable iter X.env x = pure x := by intro _; rfl) : PS X (.For tg iter body [] pos) (tFor wi g tb) := by
  intro pins s σ H D I h
  refine wpAny_For (thn (hi pins s σ H _ I h) fun v s1 h1 => thn h1 fun itv s2 h2 => ?_) hs
  obtain ⟨it, fp, tn, J, H2, e, I2, T, st2, f2, W, ⟨m0, w0⟩, turn⟩ := h2
  subst e
  -- what stays true of the iterator's objects through the loop
  have stat : ∀ {H' : Hp}, (∀ b ∈ fp, H' b = none) → ∀ b ∈ fp, FpOk X pins H' b := fun hn b hb => ⟨hn b hb, (f2 b hb).2⟩
  refine codeAny_forLoop_any (fun n s' => ∃ i σ' H', Inv X pins σ' H' s' ∧ tn i s'.heap ∧ (∀ b ∈ fp, H' b = none) ∧ W i n σ' H') ?_ m0 ⟨0, σ, H2, I2, st2, fun b hb => (f2 b hb).1, w0⟩
  rintro n s3 ⟨i, σ3, H3, I3, st3, fr3, w3⟩
  rcases turn i n σ3 H3 w3 with ⟨stop, qn⟩ | ⟨go, N, hN, step⟩
  · refine wpAny_passesOwn hp (thn (T.done X rfl rfl rfl hc i pins s3 σ3 H3 X.xe I3 (stat fr3) st3 stop) fun r s4 ⟨hr, I4⟩ => ?_)
    subst hr
    exact wpAny_execs_nil ⟨σ3, H3, I4, qn⟩
  · refine wpAny_passesOwn hp (thn (T.item X rfl rfl rfl hc i pins s3 σ3 H3 X.xe I3 (stat fr3) st3 go) fun r s4 ⟨u, hr, h4⟩ => ?_)
    subst hr
    refine wpAny_passesOwn hp (thn h4 fun _ s5 ⟨x, H5, I5, r5, y5, st5, fr5⟩ => ?_)
    have I5' := I5.pinned (stat fr5) (T.obj _ _ st5)
    refine wpAny_passesOwn hp (thn (hg _ s5 σ3 H5 x u _ I5' r5 (step x H5 y5)) fun _ s6 ⟨σ6, H6, I6, q6⟩ => ?_)
    refine wpAny_passesOwn hp (thn (hb _ s6 σ6 H6 _ I6 q6) fun f s7 q7 => ?_)
    have again : ∀ {σ7 : St} {H7 : Hp}, Inv X (pins ++ pinsAt fp s5.heap) σ7 H7 s7 → N σ7 H7 → ∃ m, m < n ∧ ∃ i σ' H', Inv X pins σ' H' s7 ∧ tn i s7.heap ∧ (∀ b ∈ fp, H' b = none) ∧ W i m σ' H' := fun {σ7 H7} I7 n7 => by
      obtain ⟨m', hm, w7⟩ := hN σ7 H7 n7
      refine ⟨m', hm, i + 1, σ7, H7, I7.unpinned, T.keep _ _ _ st5 fun b hb o e => (I7.pin (b, o) (List.mem_append_right _ (List.mem_append_right _ (mem_pinsAt hb e)))).1, fun b hb => ?_, w7⟩
      obtain ⟨o, e, d⟩ := T.obj _ _ st5 b hb
      exact (I7.pin (b, o) (List.mem_append_right _ (List.mem_append_right _ (mem_pinsAt hb e)))).2.1
    cases f with
    | next => obtain ⟨σ7, H7, I7, n7⟩ := q7; exact again I7 n7
    | cont => obtain ⟨σ7, H7, I7, n7⟩ := q7; exact again I7 n7
    | brk => obtain ⟨σ7, H7, I7, q7⟩ := q7; exact ⟨σ7, H7, I7.unpinned, q7⟩
    | ret v => obtain ⟨x7, σ7, H7, I7, r7, q7⟩ := q7; exact ⟨x7, σ7, H7, I7.unpinned, r7, q7⟩
end
end L2
namespace L2
open PySem PySem.Spec PyProof.Rows
abbrev R2 := V → V → Hp → VK → Prop
def OpR (X : Cx) (f : Value → Value → Sem Value) (r : R2) : Prop :=
  ∀ (pins : List (Addr × Obj)) (s : Shared) (σ : St) (H : Hp) (x y : V) (v u : Value) (Q : VK), Inv X pins σ H s → RelV x v → RelV y u → r x y H Q →
    wpAny (model X.prog X.w) X.A (f v u) (EP X pins σ Q) X.xe s
def CallR (X : Cx) (f : Value) (r : List V → Hp → VK → Prop) : Prop :=
  ∀ (pins : List (Addr × Obj)) (s : Shared) (σ : St) (H : Hp) (xs : List V) (us : List Value) (Q : VK), Inv X pins σ H s → Vals xs us → r xs H Q →
    wpAny (model X.prog X.w) X.A (call f us) (EP X pins σ Q) X.xe s
def tOp (r : R2) (ta tb : TE) : TE := fun σ H Q => ta σ H fun x H1 => tb σ H1 fun y H2 => r x y H2 Q
def rI (C : Int → Int → Prop) (g : Int → Int → V) : R2 := fun x y H Q => ∃ i j, x = .int i ∧ y = .int j ∧ C i j ∧ Q (g i j) H
def rI0 (g : Int → Int → V) : R2 := fun x y H Q => ∃ i j, x = .int i ∧ y = .int j ∧ Q (g i j) H
section
variable {X : Cx} {a b c : Expr} {ta tb tc : TE} {pos : Pos}
theorem binT (ha : PE X a ta) (hb : PE X b tb) {pins : List (Addr × Obj)} {s : Shared} {σ : St} {H : Hp} {R : V → V → Hp → Prop} (I : Inv X pins σ H s)
    (h : ta σ H fun x H1 => tb σ H1 fun y H2 => R x y H2) {Q : Value → Shared → Prop} {f : Value → Value → Sem Value}
    (hf : ∀ v u s2 x y H2, Inv X pins σ H2 s2 → RelV x v → RelV y u → R x y H2 → wpAny (model X.prog X.w) X.A (f v u) Q X.xe s2) :
    wpAny (model X.prog X.w) X.A (eval a X.env) (fun v s₁ => wpAny (model X.prog X.w) X.A (eval b X.env) (fun u s₂ => wpAny (model X.prog X.w) X.A (f v u) Q X.xe s₂) X.xe s₁) X.xe s := by
  refine thn (ha pins s σ H _ I h) fun v s1 ⟨x, H1, I1, r1, q1⟩ => ?_
  refine thn (hb pins s1 σ H1 _ I1 q1) fun u s2 ⟨y, H2, I2, r2, q2⟩ => ?_
  exact hf v u s2 x y H2 I2 r1 r2 q2

theorem pe_op {op : Operator} {r : R2} (ho : OpR X (binaryOp op) r) (ha : PE X a ta) (hb : PE X b tb) : PE X (.BinOp a op b pos) (tOp r ta tb) := by
  intro pins s σ H Q I h
  exact wpAny_BinOp (binT ha hb I h fun v u s2 x y H2 I2 rx ry q => ho pins s2 σ H2 x y v u Q I2 rx ry q)
theorem opI {f : Value → Value → Sem Value} {C : Int → Int → Prop} {g : Int → Int → Int}
    (rule : ∀ (i j : Int) (t u : Tok) (s : Shared) (Q : Value → Shared → Prop) (E : Value → Shared → Prop), C i j → Q (.int (g i j) s.toks) { s with toks := s.toks + 1 } → wpAny (model X.prog X.w) X.A (f (.int i t) (.int j u)) Q E s) :
    OpR X f (rI C fun i j => .int (g i j)) := by
  intro pins s σ H x y v u Q I rx ry h
  obtain ⟨i, j, rfl, rfl, hc, q⟩ := h
  obtain ⟨t, rfl⟩ := rx
  obtain ⟨t', rfl⟩ := ry
  exact rule i j t t' s _ _ hc ⟨.int (g i j), H, I.tok _, ⟨_, rfl⟩, q⟩
theorem opI0 {f : Value → Value → Sem Value} {g : Int → Int → Int}
    (rule : ∀ (i j : Int) (t u : Tok) (s : Shared) (Q : Value → Shared → Prop) (E : Value → Shared → Prop), Q (.int (g i j) s.toks) { s with toks := s.toks + 1 } → wpAny (model X.prog X.w) X.A (f (.int i t) (.int j u)) Q E s) :
    OpR X f (rI0 fun i j => .int (g i j)) := by
  intro pins s σ H x y v u Q I rx ry h
  obtain ⟨i, j, rfl, rfl, q⟩ := h
  obtain ⟨t, rfl⟩ := rx
  obtain ⟨t', rfl⟩ := ry
  exact rule i j t t' s _ _ ⟨.int (g i j), H, I.tok _, ⟨_, rfl⟩, q⟩
theorem opB0 {f : Value → Value → Sem Value} {g : Int → Int → Bool}
    (rule : ∀ (i j : Int) (t u : Tok) (s : Shared) (Q : Value → Shared → Prop) (E : Value → Shared → Prop), Q (.bool (g i j)) s → wpAny (model X.prog X.w) X.A (f (.int i t) (.int j u)) Q E s) :
    OpR X f (rI0 fun i j => .bl (g i j)) := by
  intro pins s σ H x y v u Q I rx ry h
  obtain ⟨i, j, rfl, rfl, q⟩ := h
  obtain ⟨t, rfl⟩ := rx
  obtain ⟨t', rfl⟩ := ry
  exact rule i j t t' s _ _ ⟨.bl (g i j), H, I, rfl, q⟩

def CDiv (i j : Int) : Prop := 0 < j ∧ j < 1073741824
def CPow (i j : Int) : Prop := 0 ≤ j ∧ j ≤ 1000000 ∧ i.natAbs < 2 ^ 64
def CMul (i j : Int) : Prop := (-(2 ^ 64) < i ∧ i < 2 ^ 64) ∨ (-(2 ^ 64) < j ∧ j < 2 ^ 64)
theorem CMul.ok {i j : Int} (h : CMul i j) : IntMulOk i j := by
  rcases h with ⟨h1, h2⟩ | ⟨h1, h2⟩
  · exact .of_left (intBits_le_64 h1 h2)
  · exact .of_right (intBits_le_64 h1 h2)
theorem op_add : OpR X (binaryOp .Add) (rI0 fun i j => .int (i + j)) := opI0 fun _ _ _ _ _ _ _ q => add_int q
theorem op_sub : OpR X (binaryOp .Sub) (rI0 fun i j => .int (i - j)) := opI0 fun _ _ _ _ _ _ _ q => sub_int q
theorem op_mul : OpR X (binaryOp .Mult) (rI CMul fun i j => .int (i * j)) := opI fun _ _ _ _ _ _ _ hc q => mul_int q hc.ok
theorem op_fdiv : OpR X (binaryOp .FloorDiv) (rI CDiv fun i j => .int (i / j)) := opI fun i j _ _ _ _ _ hc q => by
  have h1 : (0 : Int) < j := hc.1
  have h2 : j < 1073741824 := hc.2
  exact floordiv_int (by omega) (by rw [Int.fdiv_eq_ediv_of_nonneg i (by omega)]; exact q) (.inl (PyProof.noPylong_small (by omega)))
theorem op_mod : OpR X (binaryOp .Mod) (rI (fun _ j => 0 < j) fun i j => .int (i % j)) := opI fun i j _ _ _ _ _ hc q => by
  have h1 : (0 : Int) < j := hc
  exact mod_int' (by omega) (by rw [Int.fmod_eq_emod_of_nonneg i (by omega)]; exact q)
theorem op_pow : OpR X (binaryOp .Pow) (rI CPow fun i j => .int (i ^ j.toNat)) := opI fun _ _ _ _ _ _ _ hc q => pow_int_small hc.1 hc.2.1 hc.2.2 q
end
section
variable {X : Cx} {a b c : Expr} {ta tb tc : TE} {pos : Pos}
theorem fin_bl {pins : List (Addr × Obj)} {σ : St} {H : Hp} {s : Shared} {Q : VK} {k k' : Bool} (I : Inv X pins σ H s) (q : Q (.bl k) H) (e : k = k') : EP X pins σ Q (.bool k') s := by
  subst e
  exact ⟨.bl k, H, I, rfl, q⟩
theorem op_lt : OpR X (compareOp .Lt) (rI0 fun i j => .bl (decide (i < j))) := opB0 fun _ _ _ _ _ _ _ q => lt_int q
theorem op_le : OpR X (compareOp .LtE) (rI0 fun i j => .bl (decide (i ≤ j))) := opB0 fun _ _ _ _ _ _ _ q => le_int q
theorem op_gt : OpR X (compareOp .Gt) (rI0 fun i j => .bl (decide (j < i))) := opB0 fun _ _ _ _ _ _ _ q => gt_int q
theorem op_lt_str : OpR X (compareOp .Lt) (fun x y H Q => ∃ i j, x = .str i ∧ y = .str j ∧ Q (.bl (decide (i.cps.toList < j.cps.toList))) H) := by
  intro pins s σ H x y v u Q I rx ry h
  obtain ⟨i, j, rfl, rfl, q⟩ := h
  obtain ⟨t, rfl⟩ := rx
  obtain ⟨t', rfl⟩ := ry
  exact lt_str (fin_bl I q rfl)
theorem op_in_str : OpR X (compareOp .In) (fun x y H Q => ∃ i j, x = .str i ∧ y = .str j ∧ Q (.bl (!(Builtin.Str.occurrences j i 0 j.length 1).isEmpty)) H) := by
  intro pins s σ H x y v u Q I rx ry h
  obtain ⟨i, j, rfl, rfl, q⟩ := h
  obtain ⟨t, rfl⟩ := rx
  obtain ⟨t', rfl⟩ := ry
  exact in_str (fin_bl I q rfl)

theorem OpR.or {f : Value → Value → Sem Value} {r r' : R2} (h : OpR X f r) (h' : OpR X f r') : OpR X f (fun x y H Q => r x y H Q ∨ r' x y H Q) := by
  intro pins s σ H x y v u Q I rx ry q
  rcases q with q | q
  · exact h pins s σ H x y v u Q I rx ry q
  · exact h' pins s σ H x y v u Q I rx ry q

theorem pe_cmpR {op : CmpOp} {r : R2} (ho : OpR X (compareOp op) r) (ha : PE X a ta) (hb : PE X b tb) (hm : behindInMarks op b = false) : PE X (.Compare a [op] [b] pos) (tOp r ta tb) := by
  intro pins s σ H Q I h
  exact wpAny_Compare1 (binT ha hb I h fun v u s2 x y H2 I2 rx ry q => ho pins s2 σ H2 x y v u Q I2 rx ry q) hm
def tTest (t : TE) : TT := fun σ H Q => t σ H fun x H' => ∃ k, x = .bl k ∧ Q k H'
theorem pt_cmpR {op : CmpOp} {r : R2} (ho : OpR X (compareOp op) r) (ha : PE X a ta) (hb : PE X b tb) (hm : behindInMarks op b = false) : PT X (.Compare a [op] [b] pos) (tTest (tOp r ta tb)) := by
  intro pins s σ H Q I h
  refine wpAny_isTrue_Compare1 (thn (ha pins s σ H _ I h) fun v s1 ⟨x, H1, I1, r1, q1⟩ => thn (hb pins s1 σ H1 _ I1 q1) fun u s2 ⟨y, H2, I2, r2, q2⟩ =>
    thn (ho pins s2 σ H2 x y v u _ I2 r1 r2 q2) fun c s3 ⟨z, H3, I3, r3, k, e, q3⟩ => ?_) hm
  subst e
  cases r3
  exact wpAny_truthy_bool ⟨H3, I3, q3⟩
def tChain (r r' : R2) (ta tb tc : TE) : TE := fun σ H Q => ta σ H fun x H1 => tb σ H1 fun y H2 => r x y H2 fun z H3 => ∃ k, z = .bl k ∧
  (if k = true then tc σ H3 fun w' H4 => r' y w' H4 Q else Q (.bl false) H3)
theorem pe_chain {op op' : CmpOp} {r r' : R2} (ho : OpR X (compareOp op) r) (ho' : OpR X (compareOp op') r') (ha : PE X a ta) (hb : PE X b tb) (hc : PE X c tc)
    (hm : lastMarks [op, op'] [b, c] = false := by with_unfolding_all rfl) : PE X (.Compare a [op, op'] [b, c] pos) (tChain r r' ta tb tc) := by
  intro pins s σ H Q I h
  refine Compare_chain (thn (ha pins s σ H _ I h) fun v s1 ⟨x, H1, I1, r1, q1⟩ => chain_link (thn (hb pins s1 σ H1 _ I1 q1) fun u s2 ⟨y, H2, I2, r2, q2⟩ =>
    thn (ho pins s2 σ H2 x y v u _ I2 r1 r2 q2) fun d s3 ⟨z, H3, I3, r3, k, e, q3⟩ => ?_)) hm
  subst e
  cases r3
  refine wpAny_truthy_bool ?_
  cases k with
  | false => exact ite_ff ⟨.bl false, H3, I3, rfl, q3⟩
  | true => exact ite_tt (chain_last (thn (hc pins s3 σ H3 _ I3 q3) fun w' s4 ⟨z', H4, I4, r4, q4⟩ => ho' pins s4 σ H4 y z' u w' Q I4 r2 r4 q4))
theorem pt_chain {op op' : CmpOp} {r r' : R2} (ho : OpR X (compareOp op) r) (ho' : OpR X (compareOp op') r') (ha : PE X a ta) (hb : PE X b tb) (hc : PE X c tc)
    (hm : lastMarks [op, op'] [b, c] = false := by with_unfolding_all rfl) : PT X (.Compare a [op, op'] [b, c] pos) (tTest (tChain r r' ta tb tc)) := by
  intro pins s σ H Q I h
  refine isTrue_chain (thn (ha pins s σ H _ I h) fun v s1 ⟨x, H1, I1, r1, q1⟩ => test_link (thn (hb pins s1 σ H1 _ I1 q1) fun u s2 ⟨y, H2, I2, r2, q2⟩ =>
    thn (ho pins s2 σ H2 x y v u _ I2 r1 r2 q2) fun d s3 ⟨z, H3, I3, r3, k, e, q3⟩ => ?_)) hm
  subst e
  cases r3
  refine wpAny_truthy_bool ?_
  cases k with
  | false =>
    obtain ⟨k', e', q'⟩ := q3
    cases e'
    exact ite_ff ⟨H3, I3, q'⟩
  | true =>
    refine ite_tt (test_last (thn (hc pins s3 σ H3 _ I3 q3) fun w' s4 ⟨z', H4, I4, r4, q4⟩ => thn (ho' pins s4 σ H4 y z' u w' _ I4 r2 r4 q4) fun d' s5 ⟨z2, H5, I5, r5, k2, e2, q5⟩ => ?_))
    subst e2
    cases r5
    exact wpAny_truthy_bool ⟨H5, I5, q5⟩

theorem line63 : (sizeLine : Nat) < 2 ^ 63 := by rw [sizeLine_eq]; decide
theorem op_add_str : OpR X (binaryOp .Add) (fun x y H Q => ∃ i j, x = .str i ∧ y = .str j ∧ i.length + j.length ≤ sizeLine ∧ Q (.str (i ++ j)) H) := by
  intro pins s σ H x y v u Q I rx ry h
  obtain ⟨i, j, rfl, rfl, hz, q⟩ := h
  obtain ⟨t, rfl⟩ := rx
  obtain ⟨t', rfl⟩ := ry
  exact add_str (fun t' tk => ⟨.str (i ++ j), H, I.tok _, ⟨_, rfl⟩, q⟩) hz
theorem vals1 {x : V} {us : List Value} (r : Vals [x] us) : ∃ u, us = [u] ∧ RelV x u := by
  cases r with
  | cons r1 r2 => cases r2; exact ⟨_, rfl, r1⟩
theorem vals2 {x y : V} {us : List Value} (r : Vals [x, y] us) : ∃ u w', us = [u, w'] ∧ RelV x u ∧ RelV y w' := by
  cases r with
  | cons r1 r2 =>
    cases r2 with
    | cons r3 r4 => cases r4; exact ⟨_, _, rfl, r1, r3⟩
theorem call_abs : CallR X (.builtin "abs") (fun xs H Q => ∃ i, xs = [.int i] ∧ Q (.int (if i < 0 then -i else i)) H) := by
  intro pins s σ H xs us Q I r h
  obtain ⟨i, rfl, q⟩ := h
  obtain ⟨u, rfl, t, rfl⟩ := vals1 r
  exact call_abs_int fun u tk => ⟨.int (if i < 0 then -i else i), H, I.tok _, ⟨_, rfl⟩, q⟩
theorem call_int1 : CallR X (.type "int") (fun xs H Q => (∃ i, xs = [.int i] ∧ Q (.int i) H) ∨ ∃ k, xs = [.bl k] ∧ Q (.int (if k then 1 else 0)) H) := by
  intro pins s σ H xs us Q I r h
  rcases h with ⟨i, rfl, q⟩ | ⟨k, rfl, q⟩
  · obtain ⟨u, rfl, t, rfl⟩ := vals1 r
    exact call_int_int ⟨.int i, H, I, ⟨_, rfl⟩, q⟩
  · obtain ⟨u, rfl, r1⟩ := vals1 r
    cases r1
    exact call_int_bool ⟨.int (if k then 1 else 0), H, I.tok _, ⟨_, rfl⟩, q⟩
end
end L2
namespace L2
open PySem PySem.Spec PyProof.Rows
theorem RelO.some_of {v : V} {o : Option Value} (r : RelO (some v) o) : ∃ u, o = some u ∧ RelV v u := by
  cases o with
  | none => exact (show False from r).elim
  | some u => exact ⟨u, rfl, r⟩
end L2
namespace L2
open PySem PySem.Spec PyProof.Rows
structure Room (k : Nat) (A : Around) : Prop where
  hd : A.handled = none
  dp : A.depth + 3 * k + 5 < recursionLimit
  un : A.units + 16 * k + 200 < cLine
theorem Room.mono {j k : Nat} {A : Around} (r : Room k A) (h : j ≤ k) : Room j A := ⟨r.hd, by have := r.dp; omega, by have := r.un; omega⟩
theorem Room.deeper {k : Nat} {A : Around} (r : Room (k + 1) A) (env : Env) : Room k (A.deeper env) :=
  ⟨r.hd, by have := r.dp; show A.depth + 1 + 3 * k + 5 < _; omega, by have := r.un; show A.units + 3 + 16 * k + 200 < _; omega⟩
theorem Room.depth {k : Nat} {A : Around} (r : Room k A) : A.depth < recursionLimit := by have := r.dp; omega
def tNil : TA := fun _ H Q => Q [] H
def tCons (ta : TE) (tr : TA) : TA := fun σ H Q => ta σ H fun x H1 => tr σ H1 fun xs H2 => Q (x :: xs) H2
section
variable {X : Cx} {e : Expr} {es : List Expr} {te : TE} {t : TA} {pos : Pos}
theorem pa_nil : PA X [] tNil := fun _ _ _ _ H Q I h => Calls.spliced_nil ⟨[], H, I, .nil, h⟩
theorem pa_cons (ha : PE X e te) (hr : PA X es t) (hs : starEach (e :: es) X.env = (false, eval e X.env) :: starEach es X.env := by rfl) : PA X (e :: es) (tCons te t) := by
  intro pos pins s σ H Q I h
  rw [hs]
  show wpAny _ _ (spliced ((false, eval e X.env) :: backTo pos (starEach es X.env))) _ _ s
  refine Calls.spliced_cons (thn (ha pins s σ H _ I h) fun u s1 ⟨x, H1, I1, r1, q1⟩ => ?_)
  exact thn (hr pos pins s1 σ H1 _ I1 q1) fun us s2 ⟨xs, H2, I2, r2, q2⟩ => ⟨x :: xs, H2, I2, .cons r1 r2, q2⟩

def tTup (t : TA) : TE := fun σ H Q => t σ H fun xs H1 => xs.length ≤ sizeLine ∧ ∀ p, H1 p = none → Q (.ref p) (upd H1 p (.tup xs))
def tLst (t : TA) : TE := fun σ H Q => t σ H fun xs H1 => xs.length ≤ sizeLine ∧ ∀ p, H1 p = none → Q (.ref p) (upd H1 p (.lst xs))
theorem pe_tup {x1} (h : PA X es t) : PE X (.Tuple es x1 pos) (tTup t) := by
  intro pins s σ H Q I hq
  refine wpAny_Tuple_spliced (thn (h pos pins s σ H _ I hq) fun us s1 ⟨xs, H1, I1, r, z, q⟩ => ⟨by rw [← r.length]; exact z, ?_⟩)
  have hf : H1 s1.heap.objs.size = none := I1.hok.fresh (Nat.le_refl _)
  refine ⟨.ref s1.heap.objs.size, upd H1 s1.heap.objs.size (.tup xs), I1.laid (t' := s1.toks) (fun b u e => Heap.get?_push_of_some _ e) (Nat.le_refl _) ?_, rfl, q _ hf⟩
  exact ⟨z, us, r, ⟨_, Heap.get?_push_size _ rfl, ⟨rfl, rfl⟩, _, rfl⟩⟩
theorem pe_lst (h : PA X es t) : PE X (.List es pos) (tLst t) := by
  intro pins s σ H Q I hq
  refine wpAny_List_spliced (thn (h pos pins s σ H _ I hq) fun us s1 ⟨xs, H1, I1, r, z, q⟩ => ⟨by rw [← r.length]; exact z, ?_⟩)
  have hf : H1 s1.heap.objs.size = none := I1.hok.fresh (Nat.le_refl _)
  refine ⟨.ref s1.heap.objs.size, upd H1 s1.heap.objs.size (.lst xs), I1.laid (t' := s1.toks) (fun b u e => Heap.get?_push_of_some _ e) (Nat.le_refl _) ?_, rfl, q _ hf⟩
  exact ⟨z, us, 0, r, Heap.get?_push_size _ rfl⟩
end
abbrev Sp := List V → Hp → VK → XK → Prop
abbrev CXT := List Env → Hp → Shared → XK → Value → Shared → Prop

structure Env0 (P : Program) (w : World) (K : PySem.W.Frag) (mg : Str → Option Value) (base : Heap) (A : Around) (outer : List Env) (s : Shared) (H : Hp) : Prop where
  frames : A.frames = some outer
  mod : Mod K mg base
  bs : ∀ b o, base.get? b = some o → s.heap.get? b = some o ∧ H b = none
  bsz : base.objs.size ≤ s.heap.objs.size
  funs : s.heap.FunFrames base outer
  frf : ∀ b ∈ frs outer, H b = none
  hok : HOk P w H s.heap
  bare : AllBare s.gens
def CE (outer : List Env) (P : Program) (w : World) (H : Hp) (s : Shared) (Q : VK) (u : Value) (s' : Shared) : Prop :=
  ∃ v H', s'.os = s.os ∧ AllBare s'.gens ∧ Un (frs outer) [] H H' s.heap s'.heap ∧ HOk P w H' s'.heap ∧ RelV v u ∧ Q v H'
def CR (CX : CXT) (outer : List Env) (P : Program) (w : World) (H : Hp) (s : Shared) (Q : VK) (E : XK) (r : Result) (s' : Shared) : Prop :=
  match r with
  | .ok (.ret u) => CE outer P w H s Q u s'
  | .ok _ => False
  | .error e => CX outer H s E e s'
structure FnOk (P : Program) (w : World) (K : PySem.W.Frag) (mg : Str → Option Value) (base : Heap) (CX : CXT) (k : Nat) (f : Addr) (fd : FuncData) (ps : List Str) (sp : Sp) : Prop where
  len : ∀ vs H Q E, sp vs H Q E → vs.length = ps.length
  run : ∀ (A : Around) (outer : List Env) (s : Shared) (H : Hp) (args : Args) (us : List Value) (vs : List V) (Q : VK) (E : XK), Room k A → Env0 P w K mg base A outer s H → BindsTo s fd args (ps.zip us) → Vals vs us → sp vs H Q E →
    codeAny (model P w) A (.call (.ref f) args) (CR CX outer P w H s Q E) s
theorem FnOk.mono {P : Program} {w : World} {K : PySem.W.Frag} {mg : Str → Option Value} {base : Heap} {CX : CXT} {j k : Nat} {f : Addr} {fd : FuncData} {ps : List Str} {sp : Sp} (F : FnOk P w K mg base CX j f fd ps sp) (h : j ≤ k) :
    FnOk P w K mg base CX k f fd ps sp := ⟨F.len, fun A outer s H args us vs Q E hr => F.run A outer s H args us vs Q E (hr.mono h)⟩
theorem FnOk.imp {P : Program} {w : World} {K : PySem.W.Frag} {mg : Str → Option Value} {base : Heap} {CX : CXT} {k : Nat} {f : Addr} {fd : FuncData} {ps : List Str} {sp sp' : Sp} (F : FnOk P w K mg base CX k f fd ps sp)
    (h : ∀ vs H Q E, sp' vs H Q E → sp vs H Q E) : FnOk P w K mg base CX k f fd ps sp' :=
  ⟨fun vs H Q E q => F.len vs H Q E (h _ _ _ _ q), fun A outer s H args us vs Q E hr he hb hv hs => F.run A outer s H args us vs Q E hr he hb hv (h _ _ _ _ hs)⟩

section
variable {X : Cx} {pins : List (Addr × Obj)} {σ : St} {H : Hp} {s s' : Shared}
theorem Inv.env0 (I : Inv X pins σ H s) : Env0 X.prog X.w X.K X.mg X.base X.A X.stack s H :=
  ⟨I.ok.frames, I.ok.mod, I.bs, Nat.le_trans I.ok.bsz I.sz, I.stack, I.stkFree, I.hok, I.bare⟩
theorem Inv.after {Q : VK} {u : Value} (I : Inv X pins σ H s) (h : CE X.stack X.prog X.w H s Q u s') : EP X pins σ Q u s' := by
  obtain ⟨v, H', os, bare, un, hok, r, q⟩ := h
  obtain ⟨hh, g, d, t, os'⟩ := s'
  obtain rfl : os' = s.os := os
  exact ⟨v, H', I.call (h' := hh) (g' := g) (d' := d) (t' := t) (ch := []) un hok bare (fun b z => absurd z (by simp)), r, q⟩
end
def tCall (sp : Sp) (dvs : List V) (E : XK) (t : TA) : TE := fun σ H Q => t σ H fun vs H1 => sp (vs ++ dvs) H1 Q E
def Binds (K : PySem.W.Frag) (fd : FuncData) (ps : List Str) (ds : List Value) : Prop :=
  ∀ (s : Shared) (us : List Value), K.In s.heap → (us ++ ds).length = ps.length → BindsTo s fd ⟨us, []⟩ (ps.zip (us ++ ds))
theorem Binds.all {K : PySem.W.Frag} {fd : FuncData} {ps : List Str} (h : ∀ us : List Value, us.length = ps.length → bindArgs fd ⟨us, []⟩ = pure (ps.zip us)) : Binds K fd ps [] := fun s us _ hl => by
  rw [List.append_nil] at hl ⊢
  exact .of_eq (h us hl)

def Passes (CX : CXT) (X : Cx) (E : XK) : Prop := ∀ (pins : List (Addr × Obj)) (σ : St) (H : Hp) (s : Shared) (e : Value) (s' : Shared), Inv X pins σ H s → CX X.stack H s E e s' → X.xe e s'

section
variable {X : Cx} {CX : CXT} {k : Nat} {f C : Addr} {fd : FuncData} {ps : List Str} {sp : Sp} {dvs : List V} {ds : List Value} {E : XK} {x m : Str} {p pos apos : Pos} {e o : Expr} {es : List Expr} {ta : TE} {t : TA}
theorem run_fn {pins : List (Addr × Obj)} {σ : St} {H : Hp} {s : Shared} {Q : VK} {us : List Value} {vs : List V} (F : FnOk X.prog X.w X.K X.mg X.base CX k f fd ps sp) (hr : Room k X.A) (hb : Binds X.K fd ps ds) (hd : Vals dvs ds) (hx : Passes CX X E)
    (I : Inv X pins σ H s) (r : Vals vs us) (h : sp (vs ++ dvs) H Q E) : wpAny (model X.prog X.w) X.A (call (.ref f) us) (EP X pins σ Q) X.xe s := by
  have r2 : Vals (vs ++ dvs) (us ++ ds) := r.append hd
  have hl : (us ++ ds).length = ps.length := by rw [← r2.length]; exact F.len _ _ _ _ h
  refine wpAny_call (codeAny_mono (F.run X.A X.stack s H ⟨us, []⟩ (us ++ ds) (vs ++ dvs) Q E hr I.env0 (hb s us I.kIn hl) r2 h) fun r s' hq => ?_)
  cases r with
  | error e => exact hx pins σ H s e s' I hq
  | ok fl =>
    cases fl with
    | ret u => exact I.after hq
    | next => exact False.elim hq
    | brk => exact False.elim hq
    | cont => exact False.elim hq

theorem pe_call (F : FnOk X.prog X.w X.K X.mg X.base CX k f fd ps sp) (hr : Room k X.A) (hg : Gl X x) (hm : X.mg x = some (.ref f)) (hk : PySem.W.keepIn X.K (.ref f) = true) (hb : Binds X.K fd ps ds) (hd : Vals dvs ds) (hx : Passes CX X E)
    (ha : PA X (e :: es) t) (hdb : (x == ("__debug__" : Str)) = false := by decide) (he : starEach (e :: es) X.env = (false, eval e X.env) :: starEach es X.env := by rfl) (hpl : (backTo pos (starEach es X.env)).any (·.1) = false := by rfl) :
    PE X (.Call (.Name x p) (e :: es) [] pos) (tCall sp dvs E t) := by
  intro pins s σ H Q I h
  refine wpAny_Call_Name_kw (ld_glob I hg hm ?_ hdb)
  refine PySem.W.callWith_K (h₀ := X.base) I.ok.mod.kin hk (thn (ha pos pins s σ H _ I h) fun us s1 ⟨vs, H1, I1, r, q⟩ => ⟨I1.kIn, ?_⟩) he hpl
  exact run_fn F hr hb hd hx I1 r q
end
structure FnScope (N P : List Str) (sc : Scope) : Prop where
  kind : sc.kind = .function
  co : sc.isCoroutine = false
  gen : sc.isGenerator = false
  nd : N.Nodup
  pre : N.take P.length = P
  par : ∀ x ∈ P, sc.names.lookup x = some .local ∨ sc.names.lookup x = some .cell
  nofree : ∀ y ∈ sc.names, y.2 ≠ .free

theorem bindL_out {kindOf : Str → Option NameKind} {x : Str} : ∀ {binds : List (Str × Value)} {m : Str → Option Value}, (∀ v, (x, v) ∉ binds) → bindL kindOf binds m x = m x
  | [], _, _ => rfl
  | (n, v) :: r, m, h => by
    unfold bindL
    rw [bindL_out fun w hw => h w (List.mem_cons_of_mem _ hw)]
    split
    · have : x ≠ n := by rintro rfl; exact h v List.mem_cons_self
      simp [this]
    · rfl
theorem bindC_out {kindOf : Str → Option NameKind} {x : Str} : ∀ {binds : List (Str × Value)} {m : Str → Option Value}, (∀ v, (x, v) ∉ binds) → bindC kindOf binds m x = m x
  | [], _, _ => rfl
  | (n, v) :: r, m, h => by
    unfold bindC
    rw [bindC_out fun w hw => h w (List.mem_cons_of_mem _ hw)]
    split
    · rfl
    · have : x ≠ n := by rintro rfl; exact h v List.mem_cons_self
      simp [this]
theorem bindL_get {kindOf : Str → Option NameKind} {x : Str} {v : Value} : ∀ {P : List Str} {vs : List Value} {i : Nat} {m : Str → Option Value}, P.Nodup → P[i]? = some x → vs[i]? = some v → kindOf x = some .local →
    bindL kindOf (P.zip vs) m x = some v
  | [], _, _, _, _, h, _, _ => by simp at h
  | _ :: _, [], _, _, _, _, h, _ => by simp at h
  | p :: P, w :: vs, 0, m, nd, h1, h2, hk => by
    simp at h1 h2; subst h1; subst h2
    show bindL kindOf ((p, w) :: P.zip vs) m p = _
    unfold bindL
    rw [bindL_out fun v hv => (List.nodup_cons.mp nd).1 (List.of_mem_zip hv).1, if_pos hk]
    simp
  | p :: P, w :: vs, i + 1, m, nd, h1, h2, hk => by
    show bindL kindOf ((p, w) :: P.zip vs) m x = _
    unfold bindL
    exact bindL_get (i := i) (List.nodup_cons.mp nd).2 (by simpa using h1) (by simpa using h2) hk
theorem bindC_get {kindOf : Str → Option NameKind} {x : Str} {v : Value} : ∀ {P : List Str} {vs : List Value} {i : Nat} {m : Str → Option Value}, P.Nodup → P[i]? = some x → vs[i]? = some v → kindOf x ≠ some .local →
    bindC kindOf (P.zip vs) m x = some v
  | [], _, _, _, _, h, _, _ => by simp at h
  | _ :: _, [], _, _, _, _, h, _ => by simp at h
  | p :: P, w :: vs, 0, m, nd, h1, h2, hk => by
    simp at h1 h2; subst h1; subst h2
    show bindC kindOf ((p, w) :: P.zip vs) m p = _
    unfold bindC
    rw [bindC_out fun v hv => (List.nodup_cons.mp nd).1 (List.of_mem_zip hv).1, if_neg hk]
    simp
  | p :: P, w :: vs, i + 1, m, nd, h1, h2, hk => by
    show bindC kindOf ((p, w) :: P.zip vs) m x = _
    unfold bindC
    exact bindC_get (i := i) (List.nodup_cons.mp nd).2 (by simpa using h1) (by simpa using h2) hk

def start (N : List Str) (vs : List V) : St := vs.map some ++ List.replicate (N.length - vs.length) none

def cxOf (CX : CXT) (P : Program) (w : World) (K : PySem.W.Frag) (mg : Str → Option Value) (base : Heap) (N : List Str) (qual : Str) (scope : Scope) (f : Addr) (cd : Value) (A : Around) (outer : List Env) (s : Shared) (H : Hp) (E : XK) : Cx where
  prog := P
  w := w
  K := K
  mg := mg
  base := base
  A := A.deeper (envOfC qual scope s.heap.objs.size f cd)
  N := N
  s₀ := s
  H₀ := H
  env := envOfC qual scope s.heap.objs.size f cd
  outer := outer
  stack := envOfC qual scope s.heap.objs.size f cd :: outer
  ex := []
  calm := true
  fn := fun _ => true
  pn := []
  xe := fun e s' => wpAny (model P w) (A.deeper (envOfC qual scope s.heap.objs.size f cd)) (leaving (envOfC qual scope s.heap.objs.size f cd) e) (fun _ s'' => CX outer H s E e s'') (fun e' s'' => CX outer H s E e' s'') s'

theorem cell_has {sc : Scope} {n : Nat} {x : Str} (h : sc.names.lookup x = some .cell) : ∃ c, (cellsFrom n sc.names []).lookup x = some c := by
  have q := PySem.W.cellsFrom_some sc.names n [] (.inl h)
  exact Option.isSome_iff_exists.mp q

theorem inv_start {CX : CXT} {P : Program} {w : World} {K : PySem.W.Frag} {mg : Str → Option Value} {base : Heap} {N ps : List Str} {qual : Str} {scope : Scope} {f : Addr} {cd : Value} {A : Around} {outer : List Env} {s s1 : Shared} {H : Hp} {E : XK} {us : List Value} {vs : List V}
    (S : FnScope N ps scope) (hd : A.handled = none) (e0 : Env0 P w K mg base A outer s H) (hl : vs.length = ps.length) (r : Vals vs us)
    (x : InCallC s s.heap.objs.size (bindL (envOfC qual scope s.heap.objs.size f cd).kindOf (ps.zip us) fun _ => none) (cellsFrom (s.heap.objs.size + 1) scope.names []) (bindC (envOfC qual scope s.heap.objs.size f cd).kindOf (ps.zip us) fun _ => none) s1) :
    Inv (cxOf CX P w K mg base N qual scope f cd A outer s H E) [] (start N vs) H s1 := by
  have hpl : ps.length ≤ N.length := by have := congrArg List.length S.pre; rw [List.length_take] at this; omega
  obtain ⟨h1, tk, rfl, hk⟩ := x.done
  have noA : ∀ b : Addr, b ∉ (cxOf CX P w K mg base N qual scope f cd A outer s H E).ex := fun b z => absurd (show b ∈ ([] : List Addr) from z) (by simp)
  refine ⟨⟨e0.mod, S.kind, rfl, rfl, Nat.le_refl _, fun y z c h1 h2 => ?_, fun y hy => ?_, fun y c _ h => ?_, fun _ => hd, Around.frames_deeper e0.frames, .inr ⟨rfl, rfl⟩, fun b z => absurd z (noA b), e0.bs, e0.bsz, fun b _ _ => noA b, fun b z => absurd z (noA b), e0.funs, e0.frf⟩,
    rfl, e0.bare, Un.kept hk, ⟨_, x.toInCall.ns, fun i y v h1 h2 h3 => ?_⟩, fun y c h => ⟨_, x.cell y c h⟩, e0.hok.fresh (Nat.le_refl _), fun y c h => ?_, fun p hp => absurd (show p ∈ ([] : List (Addr × Obj)) from hp) (by simp), e0.hok.kept hk, ?_⟩
  · exact name_of_addr x.apart (PySem.mem_of_lookup h1) (PySem.mem_of_lookup h2)
  · have hy : scope.names.lookup y = some .cell ∨ scope.names.lookup y = some .free := hy
    rcases hy with hy | hy
    · exact cell_has hy
    · exact absurd rfl (S.nofree _ (PySem.mem_of_lookup hy))
  · exact Nat.le_of_lt (x.above y c (PySem.mem_of_lookup h))
  · have hi : i < vs.length := by
      unfold start at h2
      by_cases hi : i < vs.length
      · exact hi
      · rw [List.getElem?_append_right (by simpa using hi)] at h2
        rw [List.getElem?_replicate] at h2
        split at h2 <;> cases h2
    have ha : vs[i]? = some v := by
      unfold start at h2
      rw [List.getElem?_append_left (by simpa using hi), List.getElem?_map] at h2
      cases e : vs[i]? with
      | none => rw [e] at h2; cases h2
      | some a => rw [e] at h2; cases h2; rfl
    obtain ⟨u, hu, rv⟩ := r.get ha
    have hp : ps[i]? = some y := by
      rw [← S.pre, List.getElem?_take_of_lt (by omega)]; exact h1
    have ndP : ps.Nodup := by rw [← S.pre]; exact S.nd.sublist (List.take_sublist _ _)
    refine ⟨u, rv, ?_⟩
    rcases S.par y (List.mem_of_getElem? hp) with k | k
    · exact .inl ⟨k, bindL_get ndP hp hu k⟩
    · obtain ⟨c, e⟩ := cell_has (n := s.heap.objs.size + 1) k
      refine .inr ⟨.inl k, c, e, ?_⟩
      have q := x.cell y c e
      rw [bindC_get ndP hp hu (by show scope.names.lookup y ≠ _; rw [k]; decide)] at q
      exact q
  · exact e0.hok.fresh (Nat.le_of_lt (x.above y c (PySem.mem_of_lookup h)))
  · unfold start
    show _ = N.length
    rw [List.length_append, List.length_map, List.length_replicate]
    omega

theorem fn_of {CX : CXT} {P : Program} {w : World} {K : PySem.W.Frag} {mg : Str → Option Value} {base : Heap} {k : Nat} {f : Addr} {name qual : Str} {params : Arguments} {body : List Stmt} {scope : Scope} {dV kV doc pm cdv ct oc : Value} {an od : Option Addr}
    {osl : Array (Option Value)} {N ps : List Str} {sp : Sp} (lk : K.lookup f = some ⟨oc, od, .func (PySem.W.fnOf name qual params body scope dV kV doc pm an cdv ct), osl⟩) (hcd : PySem.W.codeIn K cdv qual = true) (S : FnScope N ps scope)
    (len : ∀ vs H Q E, sp vs H Q E → vs.length = ps.length)
    (hbody : ∀ (A : Around) (outer : List Env) (s : Shared) (H : Hp) (vs : List V) (Q : VK) (E : XK), Room k (A.deeper (envOfC qual scope s.heap.objs.size f cdv)) → sp vs H Q E →
      ∃ t, PSs (cxOf CX P w K mg base N qual scope f cdv A outer s H E) body t ∧ t { nx := fun _ H' => Q .non H', rt := Q } (start N vs) H) :
    FnOk P w K mg base CX (k + 1) f (PySem.W.fnOf name qual params body scope dV kV doc pm an cdv ct) ps sp := by
  refine ⟨len, fun A outer s H args us vs Q E hr e0 hb r hsp => ?_⟩
  have hl := len _ _ _ _ hsp
  have KX : K.In s.heap := e0.mod.kin.keeps fun b o e => (e0.bs b o e).1
  have lim : s.heap.NoLimit := e0.mod.nolimit.keeps fun b o e => (e0.bs b o e).1
  have hkind : ∀ y ∈ ps.zip us, scope.names.lookup y.1 = some .local ∨ (scope.names.lookup y.1 = some .cell ∧ ((cellsFrom (s.heap.objs.size + 1) scope.names []).lookup y.1).isSome = true) := fun ⟨n, v⟩ hy => by
    rcases S.par n (List.of_mem_zip hy).1 with q | q
    · exact .inl q
    · exact .inr ⟨q, PySem.W.cellsFrom_some _ _ _ (.inl q)⟩
  refine codeAny_call_function hr.depth (KX _ _ lk) rfl S.co S.gen rfl (PySem.W.codeRec_of KX hcd) (hb _ _ _ _ ?_)
  refine wpAny_newFunctionEnv_cells S.kind hkind fun env he s1 x => ?_
  subst he
  refine ⟨lim.keeps x.toInCall.keep, codeAny_func ?_⟩
  obtain ⟨t, ht, hq⟩ := hbody A outer s H vs Q E (hr.deeper _) hsp
  have I : Inv (cxOf CX P w K mg base N qual scope f cdv A outer s H E) [] (start N vs) H s1 := inv_start S hr.hd e0 hl r x
  refine wpAny_mono (ht [] s1 (start N vs) H _ I hq) (fun fl s' hs => ?_) fun e s' hs => hs
  have fin : ∀ {σ' : St} {H' : Hp} {v : V} {u : Value}, Inv (cxOf CX P w K mg base N qual scope f cdv A outer s H E) [] σ' H' s' → RelV v u → Q v H' → CE outer P w H s Q u s' :=
    fun {σ' H' v u} J rv q => ⟨v, H', J.os, J.bare, J.base, J.hok, rv, q⟩
  cases fl with
  | ret u =>
    obtain ⟨v, σ', H', J, rv, q⟩ := hs
    exact fin J rv q
  | next =>
    obtain ⟨σ', H', J, q⟩ := hs
    exact fin (v := V.non) (u := Value.none) J rfl q
  | brk =>
    obtain ⟨_, _, _, q⟩ := hs
    exact False.elim q
  | cont =>
    obtain ⟨_, _, _, q⟩ := hs
    exact False.elim q
end L2
namespace L2
open PySem PySem.Spec PyProof.Rows
section
variable {X : Cx} {x : Str} {p pos : Pos} {e : Expr} {es : List Expr} {t : TA} {id T : String} {r : List V → Hp → VK → Prop}
def tCB (r : List V → Hp → VK → Prop) (t : TA) : TE := fun σ H Q => t σ H fun vs H1 => r vs H1 Q
theorem pe_callB (hc : CallR X (.builtin id) r) (hg : Gl X x) (hm : X.mg x = none) (hv : bootBuiltins x = some (.builtin id)) (ha : PA X (e :: es) t) (hn : x ≠ "__name__" := by decide) (hdb : (x == ("__debug__" : Str)) = false := by decide)
    (he : starEach (e :: es) X.env = (false, eval e X.env) :: starEach es X.env := by rfl) (hpl : (backTo pos (starEach es X.env)).any (·.1) = false := by rfl) : PE X (.Call (.Name x p) (e :: es) [] pos) (tCB r t) := by
  intro pins s σ H Q I h
  refine wpAny_Call_Name_kw (ld_blt I hg hm hv ?_ hn hdb)
  exact PyProof.Rows.callWith_builtin1 (thn (ha pos pins s σ H _ I h) fun us s1 ⟨vs, H1, I1, r1, q1⟩ => hc pins s1 σ H1 vs us Q I1 r1 q1) he hpl
theorem pe_callTy (hc : CallR X (.type T) r) (hg : Gl X x) (hm : X.mg x = none) (hv : bootBuiltins x = some (.type T)) (ha : PA X (e :: es) t) (hn : x ≠ "__name__" := by decide) (hdb : (x == ("__debug__" : Str)) = false := by decide)
    (he : starEach (e :: es) X.env = (false, eval e X.env) :: starEach es X.env := by rfl) (hpl : (backTo pos (starEach es X.env)).any (·.1) = false := by rfl) : PE X (.Call (.Name x p) (e :: es) [] pos) (tCB r t) := by
  intro pins s σ H Q I h
  refine wpAny_Call_Name_kw (ld_blt I hg hm hv ?_ hn hdb)
  exact PyProof.Rows.callWith_type1 (thn (ha pos pins s σ H _ I h) fun us s1 ⟨vs, H1, I1, r1, q1⟩ => hc pins s1 σ H1 vs us Q I1 r1 q1) he hpl
end
end L2
namespace HT
open PySem PyProof.Rows
section
variable {prog : Program} {w : World} {A : Around} {E : Value → Shared → Prop} {s : Shared}
theorem cat_tup {t b : Addr} {vs ws : List Value} {Q : Value → Shared → Prop} (ht : IsTup s.heap t vs.toArray) (hb : IsTup s.heap b ws.toArray) (hv : vs ≠ [])
    (h1 : ws = [] → Q (.ref t) s) (h2 : ws ≠ [] → Q (.ref s.heap.objs.size) { s with heap := s.heap.push { cls := .type "tuple", data := .seq (vs ++ ws).toArray } })
    (hsz : vs.length + ws.length ≤ sizeLine) : wpAny (model prog w) A (binaryOp .Add (.ref t) (.ref b)) Q E s := by
  obtain ⟨⟨cls, dd, data, sl⟩, ho, hc, n, hd⟩ := id ht
  obtain ⟨⟨cls2, dd2, data2, sl2⟩, ho2, hc2, n2, hd2⟩ := id hb
  simp only at hc hd hc2 hd2
  subst hc hd hc2 hd2
  have e : vs.toArray ++ ws.toArray = (vs ++ ws).toArray := by simp
  by_cases hw : ws = []
  · exact concat_meets ⟨_, ho, rfl⟩ ⟨_, ho2, rfl⟩ noFill_tuple_add seq_tuple_add PySem.F.slot_tuple_add PySem.F.entry_tuple_add (PySem.F.args_tuple_add_2 _ _)
      (tuple_addW1 t b vs.toArray ws.toArray n n2 dd dd2 sl sl2 (by simpa using hv) (by simp [hw])) ⟨ho, ho2, h1 hw⟩
  · refine concat_meets ⟨_, ho, rfl⟩ ⟨_, ho2, rfl⟩ noFill_tuple_add seq_tuple_add PySem.F.slot_tuple_add PySem.F.entry_tuple_add (PySem.F.args_tuple_add_2 _ _)
      (tuple_addW2 t b vs.toArray ws.toArray n n2 dd dd2 sl sl2 (by simpa using hv) (by simpa using hw) (by rw [List.size_toArray, List.size_toArray]; exact hsz)) ⟨ho, ho2, ?_⟩
    rw [e]
    exact h2 hw

def sIx (n d : Nat) : Option Int → Nat
  | none => d
  | some v => if v < 0 then (v + (n : Int)).toNat else min v.toNat n
theorem sIx_none (n d : Nat) : sIx n d none = d := rfl
theorem sIx_nat (n d k : Nat) : sIx n d (some (k : Int)) = min k n := by
  show (if (k : Int) < 0 then ((k : Int) + (n : Int)).toNat else min (k : Int).toNat n) = min k n
  rw [if_neg (by omega), Int.toNat_natCast]
theorem sIx_le (n d : Nat) (hd : d ≤ n) (o : Option Int) : sIx n d o ≤ n := by
  cases o with
  | none => exact hd
  | some v =>
    show (if v < 0 then (v + (n : Int)).toNat else min v.toNat n) ≤ n
    by_cases hv : v < 0
    · rw [if_pos hv]; omega
    · rw [if_neg hv]; exact Nat.min_le_right _ _
theorem clip_eq (v : Int) (n d : Nat) : (if v < 0 then max (v + (n : Int)) 0 else min v (n : Int)) = ((sIx n d (some v) : Nat) : Int) := by
  show (if v < 0 then max (v + (n : Int)) 0 else min v (n : Int)) = (((if v < 0 then (v + (n : Int)).toNat else min v.toNat n) : Nat) : Int)
  by_cases hv : v < 0
  · simp only [if_pos hv]; omega
  · simp only [if_neg hv]; omega
theorem adjust_gen (lo hi : Option Int) (n : Nat) : Builtin.Slice.sliceAdjust lo hi 1 (n : Int) = (((sIx n 0 lo : Nat) : Int), ((sIx n n hi : Nat) : Int)) := by
  have h1 : ¬ ((1 : Int) < 0) := by omega
  unfold Builtin.Slice.sliceAdjust
  simp only [h1, if_false]
  refine Prod.ext ?_ ?_
  · cases lo with
    | none => rfl
    | some v => exact clip_eq v n 0
  · cases hi with
    | none => rfl
    | some v => exact clip_eq v n n
theorem places_gen (i j : Nat) : Builtin.Slice.slicePlaces (i : Int) (j : Int) 1 = j - i := by
  unfold Builtin.Slice.slicePlaces
  have h1 : (1 : Int) > 0 := by omega
  simp only [h1, if_true, Int.ediv_one]
  split <;> omega
theorem slicePart_ {v : Value} {o : Option Int} {Q : Option Int → Shared → Prop} (p : IsPart v o) (h : Q o s) : wpAny (model prog w) A (Builtin.Slice.slicePartIndex v) Q E s := by
  cases p with
  | none => exact slicePart_none h
  | int i t => exact slicePart_int h
theorem sliceApplied_gen {sl : Addr} {vl vu : Value} {lo hi : Option Int} {n : Nat} {Q : Int × Int × Nat → Shared → Prop} (hs : s.heap.IsSliceOf sl vl vu .none) (pl : IsPart vl lo) (pu : IsPart vu hi)
    (h : Q (((sIx n 0 lo : Nat) : Int), 1, sIx n n hi - sIx n 0 lo) s) : wpAny (model prog w) A (Builtin.Slice.sliceApplied (.ref sl) (pure (n : Int))) Q E s := by
  obtain ⟨os, hos, hcs, hds⟩ := id hs
  unfold Builtin.Slice.sliceApplied Builtin.Slice.sliceFields
  refine wpAny_bind (wpAny_bind (wpAny_field hos hds (x := vl) rfl (wpAny_bind (wpAny_field hos hds (x := vu) rfl (wpAny_bind (wpAny_field hos hds (x := .none) rfl (wpAny_pure ?_)))))))
  refine wpAny_bind (slicePart_none ?_)
  show wpAny _ _ (if ((1 : Int) == 0) = true then _ else _) _ _ s
  rw [if_neg (by decide)]
  refine wpAny_bind (slicePart_ pl (wpAny_bind (slicePart_ pu (wpAny_bind (wpAny_pure ?_)))))
  show wpAny _ _ (match Builtin.Slice.sliceAdjust lo hi 1 (n : Int) with | (lo, hi) => pure (lo, (1 : Int), Builtin.Slice.slicePlaces lo hi 1)) _ _ s
  rw [adjust_gen lo hi n]
  show wpAny _ _ (pure (((sIx n 0 lo : Nat) : Int), (1 : Int), Builtin.Slice.slicePlaces ((sIx n 0 lo : Nat) : Int) ((sIx n n hi : Nat) : Int) 1)) _ _ s
  rw [places_gen]
  exact wpAny_pure h
theorem pick_gen (xs : Array Value) (i k : Nat) : ((List.range k).filterMap fun (m : Nat) => xs[((i : Int) + (m : Int) * 1).toNat]?).toArray = ((xs.toList.drop i).take k).toArray := by
  have e : (fun (m : Nat) => xs[((i : Int) + (m : Int) * 1).toNat]?) = fun m => xs[i + m]? := by
    funext m
    have : ((i : Int) + (m : Int) * 1).toNat = i + m := by omega
    rw [this]
  rw [e]
  have := pick_run xs i k
  rw [List.filterMap_map] at this
  have e2 : ((fun x => xs[x]?) ∘ fun x => i + x) = fun m => xs[i + m]? := rfl
  rw [e2] at this
  rw [this]

theorem getItem_tuple_cut {t sl : Addr} {items : Array Value} {vl vu : Value} {lo hi : Option Int} {Q : Value → Shared → Prop} (ht : IsTup s.heap t items) (hs : s.heap.IsSliceOf sl vl vu .none) (pl : IsPart vl lo) (pu : IsPart vu hi)
    (hw : ¬ (sIx items.size 0 lo = 0 ∧ sIx items.size items.size hi = items.size))
    (h : Q (.ref s.heap.objs.size) { s with heap := s.heap.push { cls := .type "tuple", data := .seq ((items.toList.drop (sIx items.size 0 lo)).take (sIx items.size items.size hi - sIx items.size 0 lo)).toArray } })
    (hsz : items.size ≤ sizeLine) : wpAny (model prog w) A (getItem (.ref t) (.ref sl)) Q E s := by
  have htake : sizeOk (.seq ((items.toList.drop (sIx items.size 0 lo)).take (sIx items.size items.size hi - sIx items.size 0 lo)).toArray) := by
    show ((items.toList.drop (sIx items.size 0 lo)).take (sIx items.size items.size hi - sIx items.size 0 lo)).toArray.size ≤ sizeLine
    rw [List.size_toArray, List.length_take, List.length_drop, Array.length_toList]
    omega
  have hj : sIx items.size items.size hi ≤ items.size := sIx_le _ _ (Nat.le_refl _) hi
  obtain ⟨os, hos, hcs, hds⟩ := id hs
  have hTs : s.TypeIs (.ref sl) "slice" := ⟨os, hos, hcs⟩
  unfold getItem
  try with_reducible refine wpAny_holding ?_
  first | refine wpAny_bind (wpAny_pure ?_) | skip
  refine wpAny_bind (wpAny_sequenceKey ht.typeIs (by decide) ?_)
  refine wpAny_bind (wpAny_callSpecial?_slot (name := Str.ofString "__getitem__") ht.typeIs PyProof.Rows.slot_tuple_getitem
    (wpAny_call_entry PyProof.Rows.slot_tuple_getitem ht.typeIs entry_tuple_getitem ?_ (args_tuple_getitem _ _)))
  show wpAny _ _ (Builtin.Tuple.tupleItemsOf (.ref t) >>= _) _ _ s
  refine wpAny_bind (tupleItemsOf_ ht ?_)
  refine wpAny_bind (wpAny_typeOf hTs ?_)
  rw [if_pos (by decide)]
  refine wpAny_bind (sliceApplied_gen hs pl pu ?_)
  have hno : ¬ ((((sIx items.size 0 lo : Nat) : Int) == 0 && (1 : Int) == 1 && (sIx items.size items.size hi - sIx items.size 0 lo) == items.size) = true) := by
    intro q
    rw [Bool.and_eq_true, Bool.and_eq_true] at q
    have q1 : ((sIx items.size 0 lo : Nat) : Int) = 0 := eq_of_beq q.1.1
    have q2 : sIx items.size items.size hi - sIx items.size 0 lo = items.size := eq_of_beq q.2
    exact hw ⟨by omega, by omega⟩
  show wpAny _ _ (if (((sIx items.size 0 lo : Nat) : Int) == 0 && (1 : Int) == 1 && (sIx items.size items.size hi - sIx items.size 0 lo) == items.size) = true then _ else _) _ _ s
  rw [if_neg hno, pick_gen]
  first
    | exact wpAny_bind (m := Builtin.Tuple.tupleExact _) (wpAny_newObj_type (wpAny_pure ⟨_, rfl, wpAny_pure h⟩) htake)
    | exact wpAny_bind (m := Builtin.Tuple.tupleExact _) (wpAny_newObj_type (wpAny_bind (wpAny_pure (wpAny_pure ⟨_, rfl, wpAny_pure h⟩))) htake)
    | exact wpAny_bind (wpAny_bind (m := Builtin.Tuple.tupleExact _) (wpAny_newObj_type (wpAny_pure (wpAny_pure ⟨_, rfl, wpAny_pure h⟩)) htake))
    | exact wpAny_bind (wpAny_bind (m := Builtin.Tuple.tupleExact _) (wpAny_newObj_type (wpAny_pure ⟨_, rfl, wpAny_pure h⟩) htake))
end
end HT
namespace L2
open PySem PySem.Spec PyProof.Rows
abbrev TO := St → Hp → (Option Int → Hp → Prop) → Prop
def PO (X : Cx) (e : Option Expr) (t : TO) : Prop :=
  ∀ (pins : List (Addr × Obj)) (s : Shared) (σ : St) (H : Hp) (Q : Option Int → Hp → Prop), Inv X pins σ H s → t σ H Q →
    wpAny (model X.prog X.w) X.A (evalPart e X.env) (fun u s' => ∃ o H', Inv X pins σ H' s' ∧ IsPart u o ∧ Q o H') X.xe s
def tNoPart : TO := fun _ H Q => Q none H
def tPart (t : TE) : TO := fun σ H Q => t σ H fun x H1 => ∃ i, x = .int i ∧ Q (some i) H1

section
variable {X : Cx} {e : Expr} {te : TE} {lo hi : Option Expr} {tl th : TO} {pos p2 : Pos}
theorem po_none : PO X none tNoPart := by
  intro pins s σ H Q I h
  rw [evalPart_none]
  exact wpAny_pure ⟨none, H, I, .none, h⟩
theorem po_some (h : PE X e te) : PO X (some e) (tPart te) := by
  intro pins s σ H Q I hw
  rw [evalPart_some]
  refine thn (h pins s σ H _ I hw) fun u s1 ⟨x, H1, I1, r1, q1⟩ => ?_
  obtain ⟨i, rfl, q⟩ := q1
  obtain ⟨t, rfl⟩ := r1
  exact ⟨some i, H1, I1, .int i t, q⟩

def SlR (X : Cx) (r : V → Option Int → Option Int → Hp → VK → Prop) : Prop :=
  ∀ (pins : List (Addr × Obj)) (s : Shared) (σ : St) (H : Hp) (x : V) (v vl vu : Value) (lo hi : Option Int) (sl : Addr) (Q : VK), Inv X pins σ H s → RelV x v → s.heap.IsSliceOf sl vl vu .none → IsPart vl lo → IsPart vu hi → r x lo hi H Q →
    ∃ T id, typeLookup (.type T) "__getitem__" = pure (some (.builtin id)) ∧ s.TypeIs v T ∧ wpAny (model X.prog X.w) X.A (getItem v (.ref sl)) (EP X pins σ Q) X.xe s
theorem SlR.or {r r' : V → Option Int → Option Int → Hp → VK → Prop} (h : SlR X r) (h' : SlR X r') : SlR X (fun x lo hi H Q => r x lo hi H Q ∨ r' x lo hi H Q) := by
  intro pins s σ H x v vl vu lo hi sl Q I rx hs pl pu q
  rcases q with q | q
  · exact h pins s σ H x v vl vu lo hi sl Q I rx hs pl pu q
  · exact h' pins s σ H x v vl vu lo hi sl Q I rx hs pl pu q
def tSl (r : V → Option Int → Option Int → Hp → VK → Prop) (te : TE) (tl th : TO) : TE := fun σ H Q => te σ H fun x H1 => tl σ H1 fun l H2 => th σ H2 fun u H3 => r x l u H3 Q
theorem pe_slice {r : V → Option Int → Option Int → Hp → VK → Prop} (hr : SlR X r) (he : PE X e te) (hl : PO X lo tl) (hu : PO X hi th) : PE X (.Subscript e (.Slice lo hi none p2) pos) (tSl r te tl th) := by
  intro pins s σ H Q I h
  refine Subscript_ (thn (he pins s σ H _ I h) fun v s1 ⟨x, H1, I1, r1, q1⟩ => ?_)
  refine wpAny_Slice (thn (hl pins s1 σ H1 _ I1 q1) fun vl s2 ⟨l, H2, I2, pl, q2⟩ => thn (hu pins s2 σ H2 _ I2 q2) fun vu s3 ⟨u, H3, I3, pu, q3⟩ => ?_)
  rw [evalPart_none]
  refine wpAny_pure ?_
  have I4 : Inv X pins σ H3 { s3 with heap := s3.heap.push { cls := .type "slice", data := .fields #[vl, vu, .none] } } := I3.kept (t' := s3.toks) fun b ob q => Heap.get?_push_of_some _ q
  obtain ⟨T, id, hT, ht, hg⟩ := hr pins { s3 with heap := s3.heap.push { cls := .type "slice", data := .fields #[vl, vu, .none] } } σ H3 x v vl vu l u s3.heap.objs.size Q I4 r1 (Heap.IsSliceOf.new ..) pl pu q3
  show wpAny (model X.prog X.w) X.A (subscriptTail e (.Slice lo hi none p2) v (.ref s3.heap.objs.size)) (EP X pins σ Q) X.xe { s3 with heap := s3.heap.push { cls := .type "slice", data := .fields #[vl, vu, .none] } }
  exact tail_any (ops := [.ref s3.heap.objs.size, v]) ht hT hg (by with_unfolding_all rfl)

def cutV (xs : List V) (lo hi : Option Int) : List V := (xs.drop (HT.sIx xs.length 0 lo)).take (HT.sIx xs.length xs.length hi - HT.sIx xs.length 0 lo)
theorem cutV_length (xs : List V) (lo hi : Option Int) : (cutV xs lo hi).length ≤ xs.length := by
  unfold cutV
  rw [List.length_take, List.length_drop]
  omega
def rSlT (K : PySem.W.Frag) : V → Option Int → Option Int → Hp → VK → Prop := fun x lo hi H Q => ∃ a xs, x = .ref a ∧ SqT K H a xs ∧
  ¬ (HT.sIx xs.length 0 lo = 0 ∧ HT.sIx xs.length xs.length hi = xs.length) ∧ ∀ p, H p = none → Q (.ref p) (upd H p (.tup (cutV xs lo hi)))
theorem sl_tup : SlR X (rSlT X.K) := by
  intro pins s σ H x v vl vu lo hi sl Q I rx hs pl pu h
  obtain ⟨a, xs, rfl, hx, hw, q⟩ := h
  cases rx
  obtain ⟨its, r, ht, hz⟩ := I.tuple hx
  have hlen : its.toArray.size = xs.length := by rw [List.size_toArray]; exact r.length.symm
  refine ⟨"tuple", _, PyProof.Rows.slot_tuple_getitem.lookup, ht.typeIs, ?_⟩
  refine HT.getItem_tuple_cut ht hs pl pu (by rw [hlen]; exact hw) ?_ (by rw [hlen]; exact hz)
  rw [hlen]
  refine ⟨.ref s.heap.objs.size, _, I.laid (t' := s.toks) (o := .tup (cutV xs lo hi)) (fun b ob q => Heap.get?_push_of_some _ q) (Nat.le_refl _) ?_, rfl, q _ (I.hok.fresh (Nat.le_refl _))⟩
  exact ⟨Nat.le_trans (cutV_length xs lo hi) hz, _, (r.drop (HT.sIx xs.length 0 lo)).take (HT.sIx xs.length xs.length hi - HT.sIx xs.length 0 lo), IsTupX.new _ _⟩

def rCatT (K : PySem.W.Frag) : R2 := fun x y H Q => ∃ a b xs ys, x = .ref a ∧ y = .ref b ∧ SqT K H a xs ∧ SqT K H b ys ∧ xs ≠ [] ∧ xs.length + ys.length ≤ sizeLine ∧
  (ys = [] → Q (.ref a) H) ∧ (ys ≠ [] → ∀ p, H p = none → Q (.ref p) (upd H p (.tup (xs ++ ys))))
theorem Vals.nil_iff {xs : List V} {us : List Value} (r : Vals xs us) : us = [] ↔ xs = [] := by
  cases r with
  | nil => simp
  | cons _ _ => simp
theorem op_catT : OpR X (binaryOp .Add) (rCatT X.K) := by
  intro pins s σ H x y v u Q I rx ry h
  obtain ⟨a, b, xs, ys, rfl, rfl, ha, hb, hx, hz, q1, q2⟩ := h
  cases rx
  cases ry
  obtain ⟨its, r1, p1, _⟩ := I.tuple ha
  obtain ⟨its2, r2, p2, _⟩ := I.tuple hb
  refine HT.cat_tup p1 p2 (fun z => hx (r1.nil_iff.mp z)) (fun z => ⟨.ref a, H, I, rfl, q1 (r2.nil_iff.mp z)⟩) (fun z => ?_) (by rw [← r1.length, ← r2.length]; exact hz)
  refine ⟨.ref s.heap.objs.size, _, I.laid (t' := s.toks) (o := .tup (xs ++ ys)) (fun b ob q => Heap.get?_push_of_some _ q) (Nat.le_refl _) ?_, rfl, q2 (fun w => z (r2.nil_iff.mpr w)) _ (I.hok.fresh (Nat.le_refl _))⟩
  exact ⟨by rw [List.length_append]; exact hz, _, r1.append r2, IsTupX.new _ _⟩
end
end L2
namespace L2
open PySem PySem.Spec PyProof.Rows
def ixN (n : Nat) (i : Int) : Option Nat := if 0 ≤ i then (if i < n then some i.toNat else none) else if -(n : Int) ≤ i then some (i + n).toNat else none
def atI {α : Type} (xs : List α) (i : Int) : Option α := (ixN xs.length i).bind fun j => xs[j]?
theorem ixN_seq {n : Nat} {i : Int} {j : Nat} (h : ixN n i = some j) : seqIndex? i n = some j ∧ j < n ∧ -(n : Int) ≤ i ∧ i < n := by
  unfold ixN at h
  by_cases h0 : 0 ≤ i
  · rw [if_pos h0] at h
    by_cases h1 : i < n
    · rw [if_pos h1] at h
      have e : i.toNat = j := Option.some.inj h
      exact ⟨by rw [seqIndex_of h0 h1, e], by omega, by omega, h1⟩
    · rw [if_neg h1] at h; cases h
  · rw [if_neg h0] at h
    by_cases h1 : -(n : Int) ≤ i
    · rw [if_pos h1] at h
      have e : (i + n).toNat = j := Option.some.inj h
      exact ⟨by rw [seqIndex_neg (by omega) h1, e], by omega, h1, by omega⟩
    · rw [if_neg h1] at h; cases h
theorem atI_get {α : Type} {xs : List α} {i : Int} {v : α} (h : atI xs i = some v) : ∃ j, seqIndex? i xs.length = some j ∧ xs[j]? = some v ∧ j < xs.length ∧ -(xs.length : Int) ≤ i ∧ i < xs.length := by
  unfold atI at h
  cases e : ixN xs.length i with
  | none => rw [e] at h; cases h
  | some j =>
    rw [e] at h
    obtain ⟨h1, h2, h3, h4⟩ := ixN_seq e
    exact ⟨j, h1, h, h2, h3, h4⟩
theorem atI_nat {α : Type} {xs : List α} {j : Nat} {v : α} (h : xs[j]? = some v) : atI xs (j : Int) = some v := by
  have hj : j < xs.length := (List.getElem?_eq_some_iff.mp h).1
  have e : ixN xs.length (j : Int) = some j := by
    unfold ixN
    rw [if_pos (by omega), if_pos (by omega)]; simp
  unfold atI; rw [e]; exact h
def PlainIx (b : Expr) : Prop := ∀ o i, subscripted b false o i = operate [o, i] (getItem o i)
def IxR (X : Cx) (r : R2) : Prop :=
  ∀ (value slice : Expr) (pins : List (Addr × Obj)) (s : Shared) (σ : St) (H : Hp) (x y : V) (v u : Value) (Q : VK), Inv X pins σ H s → RelV x v → RelV y u → r x y H Q →
    subscripted slice false v u = operate [v, u] (getItem v u) → wpAny (model X.prog X.w) X.A (subscriptTail value slice v u) (EP X pins σ Q) X.xe s
def MtR (X : Cx) (id : String) (r : V → List V → Hp → VK → Prop) : Prop :=
  ∀ (pins : List (Addr × Obj)) (s : Shared) (σ : St) (H : Hp) (x : V) (xs : List V) (v : Value) (us : List Value) (Q : VK), Inv X pins σ H s → RelV x v → Vals xs us → r x xs H Q →
    wpAny (model X.prog X.w) X.A (call (.builtin id) (v :: us)) (EP X pins σ Q) X.xe s
section
variable {X : Cx} {a b : Expr} {ta tb : TE} {pos : Pos}
theorem IxR.or {r r' : R2} (h : IxR X r) (h' : IxR X r') : IxR X (fun x y H Q => r x y H Q ∨ r' x y H Q) := by
  intro value slice pins s σ H x y v u Q I rx ry q hs
  rcases q with q | q
  · exact h value slice pins s σ H x y v u Q I rx ry q hs
  · exact h' value slice pins s σ H x y v u Q I rx ry q hs
theorem pe_ix {r : R2} (hr : IxR X r) (ha : PE X a ta) (hb : PE X b tb) (hs : PlainIx b) : PE X (.Subscript a b pos) (tOp r ta tb) := by
  intro pins s σ H Q I h
  exact Subscript_ (binT ha hb I h fun v u s2 x y H2 I2 rx ry q => hr a b pins s2 σ H2 x y v u Q I2 rx ry q (hs _ _))

def rIxL (K : PySem.W.Frag) : R2 := fun x y H Q => ∃ p xs i v, x = .ref p ∧ y = .int i ∧ SqL K H p xs ∧ atI xs i = some v ∧ Q v H
def rIxT (K : PySem.W.Frag) : R2 := fun x y H Q => ∃ p xs i v, x = .ref p ∧ y = .int i ∧ SqT K H p xs ∧ atI xs i = some v ∧ Q v H
def rIxS : R2 := fun x y H Q => ∃ z i c, x = .str z ∧ y = .int i ∧ z.length ≤ sizeLine ∧ atI z.cps.toList i = some c ∧ Q (.str ⟨#[c]⟩) H
theorem ix_list : IxR X (rIxL X.K) := by
  intro value slice pins s σ H x y v u Q I rx ry h hs
  obtain ⟨p, xs, i, z, rfl, rfl, hq, he, q⟩ := h
  cases rx
  obtain ⟨t, rfl⟩ := ry
  obtain ⟨its, r, pl, hz⟩ := I.list hq
  obtain ⟨j, h1, h2, h3, h4, h5⟩ := atI_get he
  obtain ⟨w, ew, rw'⟩ := r.get h2
  have hl := r.length
  have hn := line63
  have fin : EP X pins σ Q w s := ⟨z, H, I, rw', q⟩
  by_cases h0 : 0 ≤ i
  · have hj : i.toNat = j := by
      rw [seqIndex_of h0 h5] at h1
      exact Option.some.inj h1
    exact item_listR pl.isList h0 (by omega) (by rw [hj]; simpa using ew) fin hs
  · have hj : (i + (its.toArray.size : Int)).toNat = j := by
      rw [seqIndex_neg (by omega) h4] at h1
      rw [List.size_toArray, ← hl]
      exact Option.some.inj h1
    exact subscriptTail_builtinR (x := w) pl.isList.typeIs slot_list_getitem.lookup
      (wpAny_getItem_list_neg (Q := fun r s' => r = w ∧ EP X pins σ Q r s') pl.isList (by omega) (by rw [List.size_toArray] <;> omega) (by omega) (by rw [hj]; simpa using ew) ⟨rfl, fin⟩) hs
theorem ix_tup : IxR X (rIxT X.K) := by
  intro value slice pins s σ H x y v u Q I rx ry h hs
  obtain ⟨p, xs, i, z, rfl, rfl, hq, he, q⟩ := h
  cases rx
  obtain ⟨t, rfl⟩ := ry
  obtain ⟨its, r, pl, hz⟩ := I.tuple hq
  obtain ⟨j, h1, h2, h3, h4, h5⟩ := atI_get he
  obtain ⟨w, ew, rw'⟩ := r.get h2
  have hl := r.length
  have hn := line63
  have fin : EP X pins σ Q w s := ⟨z, H, I, rw', q⟩
  exact subscriptTail_builtinR (x := w) pl.typeIs slot_tuple_getitem.lookup
    (getItem_tuple (j := j) (Q := fun r s' => r = w ∧ EP X pins σ Q r s') pl (by omega) (by omega) (by rw [List.size_toArray, ← hl]; exact h1) (by simpa using ew) ⟨rfl, fin⟩) hs
theorem ix_str : IxR X rIxS := by
  intro value slice pins s σ H x y v u Q I rx ry h hs
  obtain ⟨z, i, c, rfl, rfl, hz, he, q⟩ := h
  obtain ⟨t, rfl⟩ := rx
  obtain ⟨t', rfl⟩ := ry
  obtain ⟨j, h1, h2, h3, h4, h5⟩ := atI_get he
  have hl : z.cps.toList.length = z.length := by simp [Str.length]
  rw [hl] at h1 h4 h5
  have hn := line63
  exact tail_any (typeIs_str s z t) slot_str_getitem.lookup (getItem_str (c := c) (by
    have e1 : decide (i < -(2 ^ 63 : Int)) = false := decide_eq_false (by omega)
    have e2 : decide (i ≥ 2 ^ 63) = false := decide_eq_false (by omega)
    rw [e1, e2, Bool.or_false]) (by rw [h1]; simpa using h2) ⟨.str ⟨#[c]⟩, H, I.tok _, ⟨_, rfl⟩, q⟩) hs
def rIx (K : PySem.W.Frag) : R2 := fun x y H Q => rIxL K x y H Q ∨ rIxT K x y H Q ∨ rIxS x y H Q
theorem ix_seq : IxR X (rIx X.K) := ix_list.or (ix_tup.or ix_str)

theorem mapSeq_set (its : List Value) (n j : Nat) (u : Value) : Obj.mapSeq (·.setIfInBounds j u) { cls := .type "list", data := .seq its.toArray n } = { cls := .type "list", data := .seq (its.set j u).toArray n } := by
  simp [Obj.mapSeq]
theorem Inv.lst {pins : List (Addr × Obj)} {σ : St} {H : Hp} {s : Shared} {p : Addr} {xs : List V} (I : Inv X pins σ H s) (h : H p = some (.lst xs)) :
    ∃ (its : List Value) (n : Nat), Vals xs its ∧ s.heap.get? p = some { cls := .type "list", data := .seq its.toArray n } ∧ xs.length ≤ sizeLine := by
  obtain ⟨z, its, n, r, e⟩ := I.hok p _ h
  exact ⟨its, n, r, e, z⟩
theorem Inv.lstUpd {pins : List (Addr × Obj)} {σ : St} {H : Hp} {s : Shared} {p : Addr} {xs ys : List V} {its its' : List Value} {n n' : Nat} {f : Obj → Obj} (I : Inv X pins σ H s) (h : H p = some (.lst xs))
    (ho : s.heap.get? p = some { cls := .type "list", data := .seq its.toArray n }) (hf : f { cls := .type "list", data := .seq its.toArray n } = { cls := .type "list", data := .seq its'.toArray n' }) (r : Vals ys its') (hz : ys.length ≤ sizeLine) (t : Nat) :
    Inv X pins σ (upd H p (.lst ys)) { s with heap := s.heap.update p f, toks := t } := by
  have e : (s.heap.update p f).get? p = some { cls := .type "list", data := .seq its'.toArray n' } := by
    rw [Heap.get?_update_self f ho (by rw [hf] <;> rfl), hf]
  refine I.write (x := p) (e := p) (by rw [h]; trivial) (.inl rfl) (fun b u hb q => (Heap.get?_update_other _ _ (Ne.symm hb)).trans q) ⟨_, e⟩ ?_
  exact ⟨hz, its', n', r, e⟩
def rSetL : V → V → V → Hp → (Hp → Prop) → Prop := fun o i v H Q => ∃ p xs k j, o = .ref p ∧ i = .int k ∧ H p = some (.lst xs) ∧ ixN xs.length k = some j ∧ Q (upd H p (.lst (xs.set j v)))
theorem set_list : PSet X rSetL := by
  intro pins s σ H o i v ov iv u Q I ro ri rv h
  obtain ⟨p, xs, k, j, rfl, rfl, hp, hj, q⟩ := h
  cases ro
  obtain ⟨t, rfl⟩ := ri
  obtain ⟨its, n, r, ho, hz⟩ := I.lst hp
  obtain ⟨h1, h2, h3, h4⟩ := ixN_seq hj
  have hl := r.length
  have hn := line63
  have I' : Inv X pins σ (upd H p (.lst (xs.set j v))) { s with heap := s.heap.update p (Obj.mapSeq (·.setIfInBounds j u)) } :=
    I.lstUpd hp ho (mapSeq_set its n j u) (r.set rv j) (by rw [List.length_set]; exact hz) s.toks
  by_cases h0 : 0 ≤ k
  · have hk : k.toNat = j := by
      rw [seqIndex_of h0 h4] at h1
      exact Option.some.inj h1
    exact PySem.W.ki_setAt ho h0 (by omega) (by rw [List.size_toArray, ← hl]; exact h4) (by rw [hk]; exact ⟨_, I', q⟩)
  · have hk : (k + (its.toArray.size : Int)).toNat = j := by
      rw [seqIndex_neg (by omega) h3] at h1
      rw [List.size_toArray, ← hl]
      exact Option.some.inj h1
    exact PySem.W.ki_setBack ho (by omega) (by rw [List.size_toArray, ← hl]; exact h3) (by omega) (by rw [hk]; exact ⟨_, I', q⟩)

theorem slice_bounds (lo hi : Option Int) (n : Nat) : (sliceBounds lo hi none n).1 = ((HT.sIx n 0 lo : Nat) : Int) ∧ (sliceBounds lo hi none n).2.1 = ((HT.sIx n n hi : Nat) : Int) ∧ (sliceBounds lo hi none n).2.2 = 1 := by
  refine ⟨?_, ?_, rfl⟩
  · cases lo with
    | none => simp [sliceBounds, HT.sIx]
    | some i =>
      simp only [sliceBounds, HT.sIx, Option.getD_none, show (1 : Int) > 0 by decide, if_true]
      by_cases h : i < 0
      · simp only [h, if_true] <;> omega
      · simp only [h, if_false] <;> omega
  · cases hi with
    | none => simp [sliceBounds, HT.sIx]
    | some i =>
      simp only [sliceBounds, HT.sIx, Option.getD_none, show (1 : Int) > 0 by decide, if_true]
      by_cases h : i < 0
      · simp only [h, if_true] <;> omega
      · simp only [h, if_false] <;> omega
theorem slicePick_cut (its : List Value) (lo hi : Option Int) : slicePick its.toArray lo hi none = ((its.drop (HT.sIx its.length 0 lo)).take (HT.sIx its.length its.length hi - HT.sIx its.length 0 lo)).toArray := by
  obtain ⟨h1, h2, h3⟩ := slice_bounds lo hi its.toArray.size
  unfold slicePick
  rw [h1, h2, h3]
  simp only [sliceRange_one, pick_run, List.size_toArray] <;> rfl
def rSlL (K : PySem.W.Frag) : V → Option Int → Option Int → Hp → VK → Prop := fun x lo hi H Q => ∃ a xs, x = .ref a ∧ SqL K H a xs ∧ ∀ p, H p = none → Q (.ref p) (upd H p (.lst (cutV xs lo hi)))
theorem sl_list : SlR X (rSlL X.K) := by
  intro pins s σ H x v vl vu lo hi sl Q I rx hs pl pu h
  obtain ⟨a, xs, rfl, hx, q⟩ := h
  cases rx
  obtain ⟨its, r, ht, hz⟩ := I.list hx
  have hlen := r.length
  refine ⟨"list", _, slot_list_getitem.lookup, ht.isList.typeIs, ?_⟩
  refine wpAny_getItem_list_slice ht.isList hs pl pu .none (by simp) ?_ (by rw [List.size_toArray] <;> omega)
  rw [slicePick_cut, ← hlen]
  refine ⟨.ref s.heap.objs.size, _, I.laid (t' := s.toks) (o := .lst (cutV xs lo hi)) (fun b ob q => Heap.get?_push_of_some _ q) (Nat.le_refl _) ?_, rfl, q _ (I.hok.fresh (Nat.le_refl _))⟩
  exact ⟨Nat.le_trans (cutV_length xs lo hi) hz, _, 0, (r.drop (HT.sIx xs.length 0 lo)).take (HT.sIx xs.length xs.length hi - HT.sIx xs.length 0 lo), Heap.get?_push_size _ rfl⟩

theorem op_notIn_str : OpR X (compareOp .NotIn) (fun x y H Q => ∃ i j, x = .str i ∧ y = .str j ∧ Q (.bl (!(!(Builtin.Str.occurrences j i 0 j.length 1).isEmpty))) H) := by
  intro pins s σ H x y v u Q I rx ry h
  obtain ⟨i, j, rfl, rfl, q⟩ := h
  obtain ⟨t, rfl⟩ := rx
  obtain ⟨t', rfl⟩ := ry
  exact notIn_str ⟨.bl _, H, I, rfl, q⟩

theorem call_len_seq : CallR X (.builtin "len") (fun xs H Q => ∃ p ys, xs = [.ref p] ∧ (SqL X.K H p ys ∨ SqT X.K H p ys) ∧ Q (.int ys.length) H) := by
  intro pins s σ H xs us Q I r h
  obtain ⟨p, ys, rfl, hq, q⟩ := h
  obtain ⟨u, rfl, rx⟩ := vals1 r
  cases rx
  have hn := line63
  rcases hq with hq | hq
  · obtain ⟨its, r', pl, hz⟩ := I.list hq
    have hlen := r'.length
    exact Calls.call_len_list pl.isList (by simp only [List.size_toArray] <;> omega) ⟨.int ys.length, H, I.tok _, ⟨s.toks + 1, by rw [List.size_toArray, hlen]⟩, q⟩
  · obtain ⟨its, r', pl, hz⟩ := I.tuple hq
    have hlen := r'.length
    exact len_tuple pl (by simp only [List.size_toArray] <;> omega) ⟨.int ys.length, H, I.tok _, ⟨s.toks + 1, by rw [List.size_toArray, hlen]⟩, q⟩
theorem call_len_str : CallR X (.builtin "len") (fun xs H Q => ∃ z, xs = [.str z] ∧ z.length ≤ sizeLine ∧ Q (.int z.length) H) := by
  intro pins s σ H xs us Q I r h
  obtain ⟨z, rfl, hz, q⟩ := h
  obtain ⟨u, rfl, t, rfl⟩ := vals1 r
  have hn := line63
  exact len_str (by omega) ⟨.int z.length, H, I.tok _, ⟨_, rfl⟩, q⟩
theorem call_tuple_of : CallR X (.type "tuple") (fun xs H Q => ∃ p ys, xs = [.ref p] ∧ ((SqL X.K H p ys ∧ ∀ l, H l = none → Q (.ref l) (upd H l (.tup ys))) ∨ (SqT X.K H p ys ∧ Q (.ref p) H))) := by
  intro pins s σ H xs us Q I r h
  obtain ⟨p, ys, rfl, h⟩ := h
  obtain ⟨u, rfl, rx⟩ := vals1 r
  cases rx
  rcases h with ⟨hq, q⟩ | ⟨hq, q⟩
  · obtain ⟨its, r', pl, hz⟩ := I.list hq
    have hlen := r'.length
    refine call_tuple_list pl.isList (fun h' kp => ?_) (by simp only [List.size_toArray] <;> omega)
    have I1 : Inv X pins σ H { s with heap := h' } := I.kept (t' := s.toks) kp
    have I2 : Inv X pins σ (upd H h'.objs.size (.tup ys)) { s with heap := h'.push { cls := .type "tuple", data := .seq its.toArray } } :=
      I1.laid (t' := s.toks) (fun b o e => Heap.get?_push_of_some _ e) (Nat.le_refl _) (show ObjOk X.prog X.w _ _ _ (.tup ys) from ⟨hz, its, r', IsTupX.new _ _⟩)
    exact ⟨.ref h'.objs.size, _, I2, rfl, q _ (I1.hok.fresh (Nat.le_refl _))⟩
  · obtain ⟨its, r', pl, hz⟩ := I.tuple hq
    exact call_tuple_same pl ⟨.ref p, H, I, rfl, q⟩

def tyV (K : PySem.W.Frag) (T : String) (x : V) (H : Hp) : Prop := match x with
  | .str _ => T = "str"
  | .int _ => T = "int"
  | .ref p => (T = "list" ∧ ∃ xs, SqL K H p xs) ∨ (T = "tuple" ∧ ∃ xs, SqT K H p xs) ∨
      (T = "dict" ∧ ((∃ kvs, Rd H p (.dK kvs)) ∨ ∃ kvs, H p = some (.dT kvs))) ∨ (T = "set" ∧ ∃ S n, H p = some (.set S n))
  | _ => False
theorem tyV_is {pins : List (Addr × Obj)} {σ : St} {H : Hp} {s : Shared} {T : String} {x : V} {v : Value} (I : Inv X pins σ H s) (r : RelV x v) (ty : tyV X.K T x H) :
    s.TypeIs v T ∧ ∀ a, v = .ref a → ∃ ob, s.heap.get? a = some ob ∧ ob.dict = none := by
  cases x with
  | str z =>
    obtain ⟨t, rfl⟩ := r
    cases (show T = "str" from ty)
    exact ⟨typeIs_str s z t, fun _ e => nomatch e⟩
  | int i =>
    obtain ⟨t, rfl⟩ := r
    cases (show T = "int" from ty)
    exact ⟨typeIs_int s i t, fun _ e => nomatch e⟩
  | ref p =>
    cases r
    rcases ty with ⟨rfl, xs, hq⟩ | ⟨rfl, xs, hq⟩ | ⟨rfl, hk⟩ | ⟨rfl, S, n, hk⟩
    · obtain ⟨its, _, pl, _⟩ := I.list hq
      refine ⟨pl.isList.typeIs, fun a e => ?_⟩
      cases e
      obtain ⟨o, n, e, c, hd, _⟩ := pl
      exact ⟨o, e, hd⟩
    · obtain ⟨its, _, ⟨o, e, c, _⟩, _⟩ := I.tupleX hq
      refine ⟨⟨o, e, c.1⟩, fun a e2 => ?_⟩
      cases e2
      exact ⟨o, e, c.2⟩
    · have z : ∃ o, s.heap.get? p = some o ∧ o.ExactDict := by
        rcases hk with ⟨kvs, hk⟩ | ⟨kvs, hk⟩
        · obtain ⟨_, _, _, _, o, _, _, e, ex, _⟩ := (show ObjOk X.prog X.w H s.heap p (.dK kvs) from hk.ok I.hok)
          exact ⟨o, e, ex⟩
        · obtain ⟨_, _, _, _, o, _, _, e, ex, _⟩ := I.hok p _ hk
          exact ⟨o, e, ex⟩
      obtain ⟨o, e, ex⟩ := z
      refine ⟨⟨o, e, ex.1⟩, fun a e2 => ?_⟩
      cases e2
      exact ⟨o, e, ex.2.1⟩
    · obtain ⟨o, _, _, _, e, ex, _⟩ := I.hok p _ hk
      refine ⟨⟨o, e, ex.1⟩, fun a e2 => ?_⟩
      cases e2
      exact ⟨o, e, ex.2.1⟩
  | _ => exact False.elim ty
def tBM0 (K : PySem.W.Frag) (T : String) (r : V → List V → Hp → VK → Prop) (to : TE) : TE := fun σ H Q => to σ H fun x H1 => tyV K T x H1 ∧ r x [] H1 Q
def tBM (K : PySem.W.Frag) (T : String) (r : V → List V → Hp → VK → Prop) (to : TE) (t : TA) : TE := fun σ H Q => to σ H fun x H1 => tyV K T x H1 ∧ t σ H1 fun xs H2 => r x xs H2 Q
variable {o e : Expr} {es : List Expr} {to : TE} {t : TA} {name : Str} {apos cpos : Pos} {T id : String} {r : V → List V → Hp → VK → Prop}
theorem pe_bm0 (pa : PlainAttrs T) (slot : Slot T name id) (hty : typeOf (.builtin id) = pure (.type "method_descriptor")) (hm : MtR X id r) (ho : PE X o to)
    (hbase : attributeBase o name X.env (eval o X.env) = eval o X.env := by rfl) (hline : (apos.endLine == cpos.line) = true := by rfl) : PE X (.Call (.Attribute o name apos) [] [] cpos) (tBM0 X.K T r to) := by
  intro pins s σ H Q I h
  refine wpAny_Call_method0_late hbase hline (thn (ho pins s σ H _ I h) fun v s1 ⟨x, H1, I1, r1, ty, q1⟩ => ?_)
  obtain ⟨h1, h2⟩ := tyV_is I1 r1 ty
  exact ⟨T, id, pa, slot, hty, h1, h2, Calls.callWith_builtin rfl (PySem.evalArgs_none (hm pins s1 σ H1 x [] v [] Q I1 r1 .nil q1))⟩
theorem pe_bm (pa : PlainAttrs T) (slot : Slot T name id) (hty : typeOf (.builtin id) = pure (.type "method_descriptor")) (hm : MtR X id r) (ho : PE X o to) (ha : PA X (e :: es) t)
    (hbase : attributeBase o name X.env (eval o X.env) = eval o X.env := by rfl)
    (hfew : ((backTo cpos (starEach (e :: es) X.env)).all (fun x => !x.1) && (backToKw cpos (keywordEach [] X.env)).all (fun x => x.1.isSome)
      && decide ((e :: es).length + ([] : List Keyword).length + (if ([] : List Keyword).isEmpty then 0 else 1) < 30)) = true := by rfl)
    (hline : (apos.endLine == cpos.line) = true := by rfl) (hs : starEach (e :: es) X.env = (false, eval e X.env) :: starEach es X.env := by rfl) (hplain : (backTo cpos (starEach es X.env)).any (·.1) = false := by rfl) :
    PE X (.Call (.Attribute o name apos) (e :: es) [] cpos) (tBM X.K T r to t) := by
  intro pins s σ H Q I h
  refine wpAny_Call_method_late hbase hfew hline rfl (thn (ho pins s σ H _ I h) fun v s1 ⟨x, H1, I1, r1, ty, q1⟩ => ?_)
  obtain ⟨h1, h2⟩ := tyV_is I1 r1 ty
  refine ⟨T, id, pa, slot, hty, h1, h2, ?_⟩
  have hA := ha cpos pins s1 σ H1 _ I1 q1
  rw [hs] at hA ⊢
  refine Calls.callWith_builtin (by show (false || (backTo cpos (starEach es X.env)).any (·.1)) = false; rw [hplain] <;> rfl) (Calls.evalArgs_plain ?_)
  exact thn hA fun us s2 ⟨vs, H2, I2, r2, q2⟩ => hm pins s2 σ H2 x vs v us Q I2 r1 r2 q2
end
end L2
namespace L2
open PySem PySem.Spec PyProof.Rows
def MtM (X : Cx) (id : String) (r : V → List V → Hp → VK → Prop) : Prop :=
  ∀ (pins : List (Addr × Obj)) (s : Shared) (σ : St) (H : Hp) (x : V) (xs : List V) (v : Value) (us : List Value) (Q : VK), Inv X pins σ H s → RelV x v → Vals xs us → r x xs H Q →
    wpAny (model X.prog X.w) X.A (call (.builtin id) (v :: us)) (EP X pins σ Q) X.xe s

theorem Vals.one : ∀ {x : V} {us : List Value}, Vals [x] us → ∃ u, us = [u] ∧ RelV x u
  | _, _, .cons r .nil => ⟨_, rfl, r⟩
theorem Vals.rep {xs : List V} {us : List Value} (h : Vals xs us) : ∀ k : Nat, Vals (List.replicate k xs).flatten (List.replicate k us).flatten
  | 0 => .nil
  | k + 1 => by
    rw [List.replicate_succ, List.replicate_succ, List.flatten_cons, List.flatten_cons]
    exact Vals.append h (Vals.rep h k)
theorem foldl_rep (its : List Value) : ∀ (k : Nat) (acc : List Value),
    List.foldl (fun x1 x2 => x1 ++ x2) acc.toArray (List.replicate k its.toArray) = (acc ++ (List.replicate k its).flatten).toArray
  | 0, acc => by simp
  | k + 1, acc => by
    have e : acc.toArray ++ its.toArray = (acc ++ its).toArray := by simp
    have e2 : (acc ++ its) ++ (List.replicate k its).flatten = acc ++ (List.replicate (k + 1) its).flatten := by
      rw [List.replicate_succ, List.flatten_cons, List.append_assoc]
    rw [← e2, ← foldl_rep its k (acc ++ its), ← e, List.replicate_succ, List.foldl_cons]

section
variable {X : Cx} {pins : List (Addr × Obj)} {σ : St} {H : Hp} {s : Shared} {l b : Addr} {xs ys zs : List V}
theorem Inv.lset {its its' : List Value} {n : Nat} {f : Array Value → Array Value} {t' : Nat} (I : Inv X pins σ H s) (hH : H l = some (.lst xs))
    (e : s.heap.get? l = some { cls := .type "list", data := .seq its.toArray n }) (hf : f its.toArray = its'.toArray) (hv : Vals ys its') (hz : ys.length ≤ sizeLine) :
    Inv X pins σ (upd H l (.lst ys)) { s with heap := s.heap.update l (Obj.mapSeq f), toks := t' } := by
  have q := PySem.IsL.update e f
  rw [hf] at q
  refine I.write (x := l) (e := l) (by rw [hH]; exact trivial) (.inl rfl) (fun b' u hb hu => (Heap.get?_update_other s.heap (Obj.mapSeq f) (Ne.symm hb)).trans hu) ⟨_, q⟩ ?_
  exact ⟨hz, its', _, hv, q⟩
theorem Inv.lnew {its : List Value} {t' : Nat} (I : Inv X pins σ H s) (hv : Vals ys its) (hz : ys.length ≤ sizeLine) :
    Inv X pins σ (upd H s.heap.objs.size (.lst ys)) { s with heap := s.heap.push { cls := .type "list", data := .seq its.toArray }, toks := t' } :=
  I.laid (fun _ _ q => Heap.get?_push_of_some _ q) (Nat.le_refl _) ⟨hz, its, 0, hv, Heap.get?_push_size _ rfl⟩
theorem Inv.fresh (I : Inv X pins σ H s) : H s.heap.objs.size = none := I.hok.fresh (Nat.le_refl _)
theorem Inv.lstM (I : Inv X pins σ H s) (hH : H l = some (.lst xs)) : xs.length ≤ sizeLine ∧ ∃ (its : List Value) (n : Nat), Vals xs its ∧ xs.length = its.length ∧ s.heap.get? l = some { cls := .type "list", data := .seq its.toArray n } := by
  obtain ⟨z, its, n, r, e⟩ := I.hok l _ hH
  exact ⟨z, its, n, r, r.length, e⟩

theorem notLongL {n : Nat} (h : n ≤ sizeLine) : Builtin.List.listTooLong n = false := by
  unfold Builtin.List.listTooLong
  exact decide_eq_false (by omega)
end
section
variable {X : Cx}
def rAppend : V → List V → Hp → VK → Prop := fun x vs H Q => ∃ l xs y, x = .ref l ∧ vs = [y] ∧ H l = some (.lst xs) ∧ xs.length < sizeLine ∧ Q .non (upd H l (.lst (xs ++ [y])))
theorem mt_append : MtM X "list.append" rAppend := by
  intro pins s σ H x vs v us Q I rx rv h
  obtain ⟨l, xs, y, rfl, rfl, hH, hz, q⟩ := h
  cases rx
  obtain ⟨u, rfl, ru⟩ := rv.one
  obtain ⟨z, its, n, r, hl, e⟩ := I.lstM hH
  refine call_meets F.slot_list_append ⟨_, e, rfl⟩ F.entry_list_append (F.args_list_append_2 _ _) (PySem.list_append l its.toArray n u (by rw [List.size_toArray]; omega)) ⟨e, ?_⟩
  refine ⟨.non, _, I.lset (its' := its ++ [u]) hH e (by simp) (r.append (.cons ru .nil)) ?_, rfl, q⟩
  rw [List.length_append, List.length_singleton]
  omega

def rCat : R2 := fun x y H Q => ∃ l b xs zs, x = .ref l ∧ y = .ref b ∧ H l = some (.lst xs) ∧ H b = some (.lst zs) ∧ xs.length + zs.length ≤ sizeLine ∧ ∀ p, H p = none → Q (.ref p) (upd H p (.lst (xs ++ zs)))
theorem op_cat : OpR X (binaryOp .Add) rCat := by
  intro pins s σ H x y v u Q I rx ry h
  obtain ⟨l, b, xs, zs, rfl, rfl, hH, hB, hz, q⟩ := h
  cases rx
  cases ry
  obtain ⟨z, its, n, r, hl, e⟩ := I.lstM hH
  obtain ⟨z2, its2, n2, r2, hl2, e2⟩ := I.lstM hB
  refine PySem.P.add_list e e2 ?_ (by rw [List.size_toArray, List.size_toArray]; omega)
  have ea : its.toArray ++ its2.toArray = (its ++ its2).toArray := by simp
  rw [ea]
  exact ⟨.ref _, _, I.lnew (t' := s.toks) (r.append r2) (by rw [List.length_append]; omega), rfl, q _ I.fresh⟩
def rRep : R2 := fun x y H Q => ∃ l k xs, x = .ref l ∧ y = .int k ∧ H l = some (.lst xs) ∧ -(2 ^ 63) ≤ k ∧ k < 2 ^ 63 ∧ xs.length * k.toNat ≤ sizeLine ∧
  ∀ p, H p = none → Q (.ref p) (upd H p (.lst (List.replicate k.toNat xs).flatten))
theorem len_rep {α : Type} (xs : List α) (k : Nat) : (List.replicate k xs).flatten.length = k * xs.length := by
  induction k with
  | zero => simp
  | succ k ih => rw [List.replicate_succ, List.flatten_cons, List.length_append, ih, Nat.succ_mul, Nat.add_comm]
theorem op_rep : OpR X (binaryOp .Mult) rRep := by
  intro pins s σ H x y v u Q I rx ry h
  obtain ⟨l, k, xs, rfl, rfl, hH, h1, h2, hz, q⟩ := h
  cases rx
  obtain ⟨t, rfl⟩ := ry
  obtain ⟨z, its, n, r, hl, e⟩ := I.lstM hH
  have hlen : its.toArray.size * k.toNat ≤ sizeLine := by rw [List.size_toArray, ← hl]; exact hz
  have hcap : ¬ its.toArray.size * k.toNat > (2 ^ 63 - 1) / 8 := by
    have : (sizeLine : Nat) ≤ (2 ^ 63 - 1) / 8 := by decide
    omega
  have hfit : ¬ (!Builtin.List.listFitsIndex k) = true := by
    rw [fitsIndex_both h1 h2]
    exact Bool.false_ne_true
  have hlong : ¬ Builtin.List.listTooLong (its.toArray.size * k.toNat) = true := by
    rw [notLongL hlen]
    exact Bool.false_ne_true
  have hnew : List.foldl (fun x1 x2 => x1 ++ x2) #[] (List.replicate (if its.toArray.isEmpty = true then 0 else k.toNat) its.toArray) = (List.replicate k.toNat its).flatten.toArray := by
    have f0 : ∀ m : Nat, List.foldl (fun x1 x2 => x1 ++ x2) #[] (List.replicate m its.toArray) = (List.replicate m its).flatten.toArray := fun m => by
      have := foldl_rep its m []
      rw [List.nil_append] at this
      exact this
    rw [f0]
    cases its with
    | nil => simp
    | cons a r' => rw [if_neg (by simp)]
  refine wpAny_binaryOp_repeat_ref (T := "list") (U := "int") (by decide) ⟨_, e, rfl⟩ (fun s' => typeIs_int s' k t) noFill_list_mul F.fills_int_mul F.slot_int_rmul repeat_list F.slot_int_index.lookup
    (call_meets F.slot_int_rmul (typeIs_int s k t) F.entry_int_rmul (F.args_int_rmul_2 _ _) (int___rmul___int_list k t l its.toArray n)
      ⟨e, rfl, ⟨_, e, rfl⟩, call_meets F.slot_list_mul ⟨_, e, rfl⟩ F.entry_list_mul (F.args_list_mul_2 _ _) (AutoListH.list___mul___list_int_3 l its.toArray n k t hfit hcap hlong) ⟨e, ?_⟩⟩)
  rw [hnew]
  exact ⟨.ref _, _, I.lnew (t' := s.toks) (r.rep k.toNat) (by rw [len_rep, Nat.mul_comm]; exact hz), rfl, q _ I.fresh⟩

end
end L2
namespace Att
open PySem PySem.W PySem.Calls PyProof.Rows
theorem ints_of_wellAll {P : Params} {h : Heap} : ∀ (ns : List Int) (vs : List Value), WellAll P h vs (ns.map WData.int) → IntsAre vs ns := by
  intro ns
  induction ns with
  | nil =>
    intro vs w
    rw [List.map_nil] at w
    cases w
    exact .nil
  | cons n ns ih =>
    intro vs w
    rw [List.map_cons] at w
    cases w with
    | cons a b =>
      cases a
      exact .cons _ _ (ih _ b)

theorem script_of {l : OpenLaw} {n : Nat} (hn : l.most = some n) {P : Params} {h : Heap} {args : List WData} {vals : List Value}
    (hpre : l.row.toRowW.claim.pre args = true) (hwl : WellAll P h vals args) :
    ∃ a vs ns, vals = [Value.ref a] ∧ args = [WData.list (ns.map WData.int)] ∧ h.get? a = some { cls := .type "list", data := .seq vs.toArray } ∧ IntsAre vs ns ∧ ns.length ≤ n := by
  have hsh : WShape.hasAll [] args [.list .int] = true := (pre_splitW hpre).1
  have hc : l.pre.holds [] { args := args } = true := (pre_splitW hpre).2
  obtain ⟨d, r, rfl, h1, h2⟩ := hasAllW_cons hsh
  obtain rfl := hasAllW_nil h2
  obtain ⟨xs, rfl, h3⟩ := hasW_list h1
  obtain ⟨ns, rfl⟩ := items_int h3
  have hlen : ns.length ≤ n := by
    unfold OpenLaw.pre at hc
    have h4 : (WTm.not (.lt (.lit (.int (n : Int))) (.len (.arg 0)))).holds [] { args := [.list (ns.map .int)] } = true := by
      have h4 := (holds_andW hc).1
      rw [hn] at h4
      exact h4
    have h5 := condW_of h4 (w_not (w_lt w_lit (w_len_list (w_arg rfl))))
    rw [List.length_map] at h5
    refine Nat.le_of_not_lt fun q => ?_
    have q' : (n : Int) < ((ns.length : Nat) : Int) := by omega
    first
      | (rw [decide_eq_true q'] at h5; exact absurd h5 (by decide))
      | (simp at h5; omega)
  cases hwl with
  | cons w1 w2 =>
    cases w2
    cases w1 with
    | list ho hall => exact ⟨_, _, ns, rfl, rfl, ho, ints_of_wellAll ns _ hall, hlen⟩

theorem post_true (l : OpenLaw) (args : List WData) : l.row.toRowW.claim.post args (.bool true) args = true :=
  postW_of (r := l.row.toRowW) (X := (true == true))
    (show WShape.has [] (.bool true) .bool = true by first | rfl | decide | simp [WShape.has, WShape.arms, WShape.armsAll])
    (show (WTm.eq .res (.lit (.bool true))).value [] { args := args, res := some (.bool true), after := args } = some (.bool (true == true)) from w_eq_bool (w_res rfl) w_lit) rfl

theorem attach_call {l : OpenLaw} {n : Nat} {q : Program} {loose : List Str} {XP : (Str → Option Value) → Heap → Prop} {YP : World → Heap → Prop} {d : DefRec}
    (hn : l.most = some n) (hdf : d.params.defaults = [])
    (call : ∀ (w : World) (s₀ s₁ : Shared) (mg mb : Str → Option Value) (fa : Addr) (o : Obj) (pm cd doc : Value) (a : Addr) (vs : List Value) (ns : List Int),
      Ground q loose [] XP w s₀ mg mb s₁.heap → YP w s₁.heap →
      s₁.heap.get? fa = some o → o.data = .func (docDef d.name d.params d.body d.scope pm cd doc) → s₁.heap.CodeRec cd d.name → mg d.name = some (.ref fa) →
      s₁.heap.get? a = some { cls := .type "list", data := .seq vs.toArray } → IntsAre vs ns → ns.length ≤ n → s₁.gens = #[] →
      codeAny (model l.prog w) callerA (.call (.ref fa) ⟨[.ref a], []⟩) (fun r s' => r = .ok (.ret (.bool true)) ∧ OldK s₁.heap s'.heap ∧ s'.os = s₁.os ∧ AllBare s'.gens) s₁) :
    WalkO q loose XP YP l.row.toRowW d [] (fun f vs => PySem.call f vs) := by
  intro w s₀ s₁ mg mb G Y fa o pm cd doc dV kV ho hd hcd hD hmg hg args vals as hpre hlay hrd hwl hlo
  obtain rfl : dV = .none := Dflts.none hD hdf
  obtain rfl : kV = .none := Dflts.noKw hD
  obtain ⟨a, vs, ns, rfl, rfl, hobj, hints, hlen⟩ := script_of hn hpre hwl
  refine enter_call (codeAny_mono (call w s₀ s₁ mg mb fa o pm cd doc a vs ns G Y ho (fd_plain hd) hcd hmg hobj hints hlen hg) fun r s' hq => ?_)
  obtain ⟨rfl, h2, h3, h4⟩ := hq
  exact ⟨.inl ⟨.bool true, .bool true, [], rfl, fun _ => rfl, .bool true, post_true l _, fun _ => ⟨List.Pairwise.nil, fun _ hm => (nomatch hm)⟩⟩, h2, h3, h4⟩

end Att
namespace L2
open PySem PySem.Spec PyProof.Rows
theorem vals_ints : ∀ {vs : List Value} {ns : List Int}, IntsAre vs ns → Vals (ns.map V.int) vs
  | _, _, .nil => .nil
  | _, _, .cons n t h => .cons ⟨t, rfl⟩ (vals_ints h)

def Only (H : Hp) : Prop := ∀ b, H b = none ∨ ∃ o xs, H b = some (.frz o (.lst xs))

theorem law_call {P : Program} {w : World} {K : PySem.W.Frag} {mg mb : Str → Option Value} {CX : CXT} {k : Nat} {fa a : Addr} {fd : FuncData} {x : Str} {sp : Sp} {s₁ : Shared} {vs : List Value} {ns : List Int}
    (KX : K.In s₁.heap) (hns : s₁.heap.Ns mainGlobals mg) (hb : s₁.heap.Ns builtinsNs mb) (hbb : ∀ x : Str, x ≠ "__name__" → mb x = bootBuiltins x) (hlim : s₁.heap.NoLimit) (hg : s₁.gens = #[])
    (ha : s₁.heap.get? a = some { cls := .type "list", data := .seq vs.toArray }) (hi : IntsAre vs ns) (hl : ns.length ≤ sizeLine) (hr : Room k callerA)
    (F : ∀ base : Heap, K.In base → base.Ns mainGlobals mg → FnOk P w K mg base CX k fa fd [x] sp) (hbind : ∀ (s : Shared) (u : Value), BindsTo s fd ⟨[u], []⟩ [(x, u)])
    (hsp : ∀ H : Hp, Only H → SqL K H a (ns.map V.int) → sp [.ref a] H (fun v _ => v = .bl true) fun _ _ _ => False)
    (hCX : ∀ H e s', CX [] H s₁ (fun _ _ _ => False) e s' → False) :
    codeAny (model P w) callerA (.call (.ref fa) ⟨[.ref a], []⟩) (fun r s' => r = .ok (.ret (.bool true)) ∧ OldK s₁.heap s'.heap ∧ s'.os = s₁.os ∧ AllBare s'.gens) s₁ := by
  have rv := vals_ints hi
  have lenV := hi.length
  -- from an abstract heap in which nothing but the script may be tracked
  have core : ∀ H : Hp, Only H → SqL K H a (ns.map V.int) → HOk P w H s₁.heap → (∀ b, H b ≠ none → b = a) → (H a ≠ none → K.lookup a = none) →
      codeAny (model P w) callerA (.call (.ref fa) ⟨[.ref a], []⟩) (fun r s' => r = .ok (.ret (.bool true)) ∧ OldK s₁.heap s'.heap ∧ s'.os = s₁.os ∧ AllBare s'.gens) s₁ := by
    intro H hO hS hok hA hK
    have base_of : ∀ {b : Addr} {o : Obj}, s₁.heap.get? b = some o → H b = none → (hidT s₁.heap H).get? b = some o := fun e n => hidT_get e n
    have noA : ∀ {b : Addr} {o : Obj} {es : Array DictEntry} {ep : Nat}, s₁.heap.get? b = some o → o.data = .dict es ep → H b = none := fun {b o es ep} e d => by
      cases q : H b with
      | none => rfl
      | some u =>
        have e' : b = a := hA b (by rw [q]; simp)
        subst e'
        rw [ha] at e; cases e
        have d' : Data.seq vs.toArray _ = Data.dict es ep := d
        cases d'
    have nsK : ∀ {b : Addr} {m : Str → Option Value}, s₁.heap.Ns b m → (hidT s₁.heap H).Ns b m := fun {b m} ⟨o, es, ep, e, d, r⟩ => ⟨o, es, ep, base_of e (noA e d), d, r⟩
    have hKb : K.In (hidT s₁.heap H) := fun b o e => base_of (KX b o e) (by
      cases q : H b with
      | none => rfl
      | some u =>
        have e' : b = a := hA b (by rw [q]; simp)
        subst e'
        rw [hK (by rw [q]; simp)] at e; cases e)
    have hM : Mod K mg (hidT s₁.heap H) := ⟨hKb, nsK hns, ⟨mb, nsK hb, hbb⟩, let ⟨mc, h1, h2⟩ := hlim; ⟨mc, nsK h1, h2⟩⟩
    have e0 : Env0 P w K mg (hidT s₁.heap H) callerA [] s₁ H := ⟨rfl, hM, fun b o e => of_hidT e, Nat.le_of_eq (hidT_size _ _), trivial, fun b hb => absurd (show b ∈ ([] : List Addr) from hb) (by simp), hok, .of_eq hg⟩
    refine codeAny_mono ((F _ hKb (nsK hns)).run callerA [] s₁ H ⟨[.ref a], []⟩ [.ref a] [.ref a] _ _ hr e0 (hbind s₁ (.ref a)) (.cons rfl .nil) (hsp H hO hS)) fun r s' h => ?_
    cases r with
    | error e => exact (hCX H e s' h).elim
    | ok fl =>
      cases fl with
      | next => exact False.elim h
      | brk => exact False.elim h
      | cont => exact False.elim h
      | ret u =>
        obtain ⟨v, H', os, bare, un, hok', r', q⟩ := h
        have q' : v = .bl true := q
        subst q'
        obtain rfl : u = Value.bool true := r'
        refine ⟨rfl, OldK.of_keep fun b o e => ?_, os, bare⟩
        cases q : H b with
        | none => exact un.keep b o e q (by intro z; exact absurd (show b ∈ ([] : List Addr) from z) (by simp)) (by simp)
        | some u =>
          rcases hO b with z | ⟨ob, xs, z⟩
          · rw [q] at z; cases z
          · have z2 := un.frzs b ob _ z
            obtain ⟨e1, _⟩ := hok b _ z
            obtain ⟨e2, _⟩ := hok' b _ z2
            rw [e] at e1; cases e1
            exact e2
  cases hk : K.lookup a with
  | some o =>
    -- the script is one of the module's own objects
    have e := KX a o hk
    rw [ha] at e
    cases e
    refine core (fun _ => none) (fun _ => .inl rfl) (.inr ⟨_, vs.toArray, _, hk, rfl, rfl, rfl, by rw [List.size_toArray, lenV]; exact hl, by simpa using rv⟩) (fun b u z => by have z' : (none : Option HO) = some u := z; cases z') (fun b z => absurd rfl z) fun z => absurd rfl z
  | none =>
    refine core (fun b => if b = a then some (.frz { cls := .type "list", data := .seq vs.toArray } (.lst (ns.map V.int))) else none) (fun b => ?_) (.inl (.inr ⟨{ cls := .type "list", data := .seq vs.toArray }, if_pos rfl⟩)) (fun b u z => ?_) (fun b z => ?_) fun _ => hk
    · by_cases hb : b = a
      · exact .inr ⟨_, _, if_pos hb⟩
      · exact .inl (if_neg hb)
    · by_cases hb : b = a
      · have z' := (if_pos hb).symm.trans z
        cases z'
        subst hb
        exact ⟨ha, by rw [List.length_map]; exact hl, vs, _, rv, ha⟩
      · have z' := (if_neg hb).symm.trans z
        cases z'
    · by_cases hb : b = a
      · exact hb
      · exact absurd (if_neg hb) z
end L2
namespace L2
open PySem PySem.Spec PyProof.Rows
abbrev KOf {K : PySem.W.Frag} {h : Heap} (_ : K.In h) : PySem.W.Frag := K

theorem walk_of {l : PySem.W.OpenLaw} {n k : Nat} {q : Program} {loose : List Str} {XP : (Str → Option Value) → Heap → Prop} {YP : World → Heap → Prop} {d : DefRec} {K : Params → PySem.W.Frag} {CX : World → CXT} {sp : World → Sp} {x : Str}
    (hn : l.most = some n) (hn2 : n ≤ sizeLine) (hdf : d.params.defaults = []) (hr : Room k callerA)
    (hY : ∀ (w : World) (h : Heap), YP w h → (K w.params).In h)
    (F : ∀ (w : World) (mg : Str → Option Value) (fa : Addr) (h : Heap), (K w.params).In h → h.Ns mainGlobals mg → mg d.name = some (.ref fa) →
      ∃ fd : FuncData, (∀ (s : Shared) (u : Value), BindsTo s fd ⟨[u], []⟩ [(x, u)]) ∧
        ∀ base : Heap, (K w.params).In base → base.Ns mainGlobals mg → FnOk l.prog w (K w.params) mg base (CX w) k fa fd [x] (sp w))
    (hsp : ∀ (w : World) (H : Hp) (a : Addr) (ns : List Int), ns.length ≤ n → Only H → SqL (K w.params) H a (ns.map V.int) → sp w [.ref a] H (fun v _ => v = .bl true) fun _ _ _ => False)
    (hCX : ∀ (w : World) (H : Hp) (s : Shared) (e : Value) (s' : Shared), CX w [] H s (fun _ _ _ => False) e s' → False) :
    PySem.W.WalkO q loose XP YP l.row.toRowW d [] (fun f vs => PySem.call f vs) := by
  refine Att.attach_call hn hdf fun w s₀ s₁ mg mb fa o pm cd doc a vs ns G Y ho hd hcd hmg hobj hints hlen hg => ?_
  have KX := hY w _ Y
  obtain ⟨fd, hb, hF⟩ := F w mg fa _ KX G.T.g hmg
  exact law_call KX G.T.g G.T.b G.T.builtins G.T.nolimit hg hobj hints (Nat.le_trans hlen hn2) hr hF hb (fun H hO hS => hsp w H a ns hlen hO hS) fun H e s' => hCX w H s₁ e s'
theorem walk_ofK {l : PySem.W.OpenLaw} {n k : Nat} {q : Program} {loose : List Str} {XP : (Str → Option Value) → Heap → Prop} {YP : World → Heap → Prop} {d : DefRec} {K : Params → PySem.W.Frag} {CX : CXT} {sp : PySem.W.Frag → Sp} {x : Str}
    (hn : l.most = some n) (hn2 : n ≤ sizeLine) (hdf : d.params.defaults = []) (hr : Room k callerA)
    (hY : ∀ (w : World) (h : Heap), YP w h → (K w.params).In h)
    (F : ∀ (w : World) (mg : Str → Option Value) (fa : Addr) (h : Heap), (K w.params).In h → h.Ns mainGlobals mg → mg d.name = some (.ref fa) →
      ∃ fd : FuncData, (∀ (s : Shared) (u : Value), BindsTo s fd ⟨[u], []⟩ [(x, u)]) ∧
        ∀ base : Heap, (K w.params).In base → base.Ns mainGlobals mg → FnOk l.prog w (K w.params) mg base CX k fa fd [x] (sp (K w.params)))
    (hsp : ∀ (K : PySem.W.Frag) (H : Hp) (a : Addr) (ns : List Int), ns.length ≤ n → Only H → SqL K H a (ns.map V.int) → sp K [.ref a] H (fun v _ => v = .bl true) fun _ _ _ => False)
    (hCX : ∀ (H : Hp) (s : Shared) (e : Value) (s' : Shared), CX [] H s (fun _ _ _ => False) e s' → False) :
    PySem.W.WalkO q loose XP YP l.row.toRowW d [] (fun f vs => PySem.call f vs) :=
  walk_of (K := K) (CX := fun _ => CX) (sp := fun w => sp (K w.params)) hn hn2 hdf hr hY F (fun w H a ns h1 h2 h3 => hsp (K w.params) H a ns h1 h2 h3) fun _ H s e s' => hCX H s e s'
end L2
namespace L2
open PySem PySem.Spec PyProof.Rows
def defArgs (s : Stmt) : Arguments := match s with
  | .FunctionDef _ a _ _ _ _ _ _ _ _ => a
  | _ => { posonlyargs := [], args := [], vararg := none, kwonlyargs := [], kw_defaults := [], kwarg := none, defaults := [] }
def defBody (s : Stmt) : List Stmt := match s with
  | .FunctionDef _ _ b _ _ _ _ _ _ _ => b
  | _ => []
def defScope (s : Stmt) : Scope := match s with
  | .FunctionDef _ _ _ _ _ _ sc _ _ _ => sc
  | _ => { kind := .function, names := [], isGenerator := false, isCoroutine := false }

abbrev CX0 : CXT := fun _ _ _ _ _ _ => False
abbrev E0 : XK := fun _ _ _ => False
theorem pass0 {X : Cx} : Passes CX0 X E0 := fun _ _ _ _ _ _ _ h => h.elim

structure Fun (K : PySem.W.Frag) (x qual : Str) (st : Stmt) (f : Addr) (fd : FuncData) : Prop where
  ex : ∃ (oc : Value) (od : Option Addr) (kV doc pm : Value) (an : Option Addr) (cdv ct : Value) (osl : Array (Option Value)),
    fd = PySem.W.fnOf x qual (defArgs st) (defBody st) (defScope st) .none kV doc pm an cdv ct ∧ K.lookup f = some ⟨oc, od, .func fd, osl⟩ ∧ PySem.W.codeIn K cdv qual = true
  kp : PySem.W.keepIn K (.ref f) = true
section
variable {P : Program} {w : World} {K : PySem.W.Frag} {mg : Str → Option Value} {base : Heap}
theorem Fun.ok {x qual : Str} {st : Stmt} {f : Addr} {fd : FuncData} {N ps : List Str} {k : Nat} {sp : Sp} (F : Fun K x qual st f fd) (S : FnScope N ps (defScope st)) (len : ∀ vs H Q E, sp vs H Q E → vs.length = ps.length)
    (hbody : ∀ (cdv : Value) (A : Around) (outer : List Env) (s : Shared) (H : Hp) (vs : List V) (Q : VK) (E : XK), Room k (A.deeper (envOfC qual (defScope st) s.heap.objs.size f cdv)) → sp vs H Q E →
      ∃ t, PSs (cxOf CX0 P w K mg base N qual (defScope st) f cdv A outer s H E).nox (defBody st) t ∧ t { nx := fun _ H' => Q .non H', rt := Q } (start N vs) H) : FnOk P w K mg base CX0 (k + 1) f fd ps sp := by
  obtain ⟨oc, od, kV, doc, pm, an, cdv, ct, osl, rfl, lk, hcd⟩ := F.ex
  refine fn_of lk hcd S len fun A outer s H vs Q E hr hsp => ?_
  obtain ⟨t, h, q⟩ := hbody cdv A outer s H vs Q E hr hsp
  exact ⟨t, h.nox, q⟩
theorem Fun.binds {x qual : Str} {st : Stmt} {f : Addr} {fd : FuncData} {ps : List Str} (F : Fun K x qual st f fd)
    (h : ∀ (kV doc pm : Value) (an : Option Addr) (cdv ct : Value) (us : List Value), us.length = ps.length → bindArgs (PySem.W.fnOf x qual (defArgs st) (defBody st) (defScope st) .none kV doc pm an cdv ct) ⟨us, []⟩ = pure (ps.zip us)) : Binds K fd ps [] := by
  obtain ⟨oc, od, kV, doc, pm, an, cdv, ct, osl, rfl, lk, hcd⟩ := F.ex
  exact .all (h kV doc pm an cdv ct)
theorem fun_mk {x qual : Str} {st : Stmt} {f : Addr} {oc : Value} {od an : Option Addr} {osl : Array (Option Value)} {kV doc pm cdv ct : Value} (l : K.lookup f = some ⟨oc, od, .func (PySem.W.fnOf x qual (defArgs st) (defBody st) (defScope st) .none kV doc pm an cdv ct), osl⟩)
    (c : PySem.W.codeIn K cdv qual = true) (k : PySem.W.keepIn K (.ref f) = true) : Fun K x qual st f (PySem.W.fnOf x qual (defArgs st) (defBody st) (defScope st) .none kV doc pm an cdv ct) := ⟨⟨oc, od, kV, doc, pm, an, cdv, ct, osl, rfl, l, c⟩, k⟩
end
def Same (H H' : Hp) : Prop := ∀ b o, H b = some o → H' b = some o
theorem Same.refl (H : Hp) : Same H H := fun _ _ h => h
theorem Same.trans {H H1 H2 : Hp} (a : Same H H1) (b : Same H1 H2) : Same H H2 := fun c o h => b c o (a c o h)
end L2
set_option Elab.async false
set_option linter.all false
set_option maxRecDepth 100000
namespace L2
open PySem PySem.Spec PyProof.Rows
def clOf (cells : List (Str × Addr)) : List (Str × NameKind) → List (Str × Addr) → List (Str × Addr)
  | [], acc => acc
  | (n, k) :: r, acc => if k == .free then clOf cells r ((n, (cells.lookup n).getD 0) :: acc) else clOf cells r acc

theorem clOf_run (env : Env) : ∀ (names : List (Str × NameKind)) (acc : List (Str × Addr)), (∀ y ∈ names, y.2 = .free → ∃ c, env.cells.lookup y.1 = some c) →
    (forIn names acc fun (x : Str × NameKind) (cs : List (Str × Addr)) =>
      match x with
      | (name, kind) => if (kind == .free) = true then (do let c ← cellOf env name; pure (ForInStep.yield ((name, c) :: cs))) else pure (ForInStep.yield cs)) = (pure (clOf env.cells names acc) : Sem _)
  | [], acc, _ => rfl
  | (n, k) :: r, acc, h => by
    rw [List.forIn_cons]
    by_cases hk : (k == NameKind.free) = true
    · obtain ⟨c, hc⟩ := h (n, k) List.mem_cons_self (eq_of_beq hk)
      have e : cellOf env n = pure c := by unfold cellOf; rw [show env.cells.lookup n = some c from hc]
      simp only [hk, if_true, e, clOf]
      rw [show env.cells.lookup n = some c from hc]
      simp only [pure_bind, Option.getD_some]
      exact clOf_run env r _ fun y hy => h y (List.mem_cons_of_mem _ hy)
    · simp only [hk, if_false, clOf, pure_bind]
      exact clOf_run env r _ fun y hy => h y (List.mem_cons_of_mem _ hy)
theorem closure_of {scope : Scope} {env : Env} (h : ∀ y ∈ scope.names, y.2 = .free → ∃ c, env.cells.lookup y.1 = some c) : closureFor scope env = pure (clOf env.cells scope.names []) := by
  have e := clOf_run env scope.names [] h
  simp only [closureFor]
  simp only [bind_pure_comp, map_pure] at e ⊢
  first | exact e | (rw [e]; rfl) | (simp only [e]; rfl)

theorem clOf_fwd {cells : List (Str × Addr)} {x : Str} {c : Addr} : ∀ {names : List (Str × NameKind)} {acc : List (Str × Addr)}, (∀ y ∈ names, y.2 = .free → ∃ c, cells.lookup y.1 = some c) → (∀ z, acc.lookup x = some z → cells.lookup x = some z) →
    (clOf cells names acc).lookup x = some c → cells.lookup x = some c
  | [], acc, _, ha, h => ha c h
  | (n, k) :: r, acc, hf, ha, h => by
    unfold clOf at h
    by_cases hk : (k == NameKind.free) = true
    · rw [if_pos hk] at h
      refine clOf_fwd (fun y hy => hf y (List.mem_cons_of_mem _ hy)) (fun z hz => ?_) h
      rw [List.lookup_cons] at hz
      split at hz
      · rename_i q
        have e : x = n := eq_of_beq q
        subst e
        obtain ⟨d, hd⟩ := hf (x, k) List.mem_cons_self (eq_of_beq hk)
        have hd' : cells.lookup x = some d := hd
        rw [hd'] at hz ⊢
        exact hz
      · exact ha z hz
    · rw [if_neg hk] at h
      exact clOf_fwd (fun y hy => hf y (List.mem_cons_of_mem _ hy)) ha h
theorem clOf_acc {cells : List (Str × Addr)} {x : Str} {c : Addr} (hc : cells.lookup x = some c) : ∀ {names : List (Str × NameKind)} {acc : List (Str × Addr)}, ((x, NameKind.free) ∈ names ∨ acc.lookup x = some c) →
    (clOf cells names acc).lookup x = some c
  | [], acc, h => by
    rcases h with h | h
    · cases h
    · exact h
  | (n, k) :: r, acc, h => by
    unfold clOf
    by_cases hk : (k == NameKind.free) = true
    · rw [if_pos hk]
      refine clOf_acc hc ?_
      by_cases hn : x = n
      · subst hn
        right
        rw [List.lookup_cons]
        simp [hc]
      · rcases h with h | h
        · rcases List.mem_cons.mp h with h | h
          · injection h with h1 _; exact absurd h1 hn
          · exact .inl h
        · right
          rw [List.lookup_cons]
          have : (x == n) = false := beq_eq_false_iff_ne.mpr hn
          rw [this]
          exact h
    · rw [if_neg hk]
      refine clOf_acc hc ?_
      rcases h with h | h
      · rcases List.mem_cons.mp h with h | h
        · injection h with _ h2; subst h2; exact absurd rfl hk
        · exact .inl h
      · exact .inr h
theorem relabel_free {env : Env} {x : Str} : ∀ {names : List (Str × NameKind)}, (∀ y ∈ names, y.2 ≠ .cell) →
    ((names.map fun (n, k) => if (k == NameKind.free && env.scope.kind == .function && env.kindOf n == some .cell) = true then (n, NameKind.cell) else (n, k)).lookup x = some .cell ∨
      (names.map fun (n, k) => if (k == NameKind.free && env.scope.kind == .function && env.kindOf n == some .cell) = true then (n, NameKind.cell) else (n, k)).lookup x = some .free) → (x, NameKind.free) ∈ names
  | [], _, h => by rcases h with h | h <;> cases h
  | (n, k) :: r, hn, h => by
    have ih := @relabel_free env x r fun y hy => hn y (List.mem_cons_of_mem _ hy)
    rw [List.map_cons] at h
    cases hx : x == n with
    | true =>
      have e : x = n := eq_of_beq hx
      subst e
      by_cases hc : (k == NameKind.free && env.scope.kind == .function && env.kindOf x == some .cell) = true
      · have hk : (k == NameKind.free) = true := by
          rw [Bool.and_eq_true, Bool.and_eq_true] at hc
          exact hc.1.1
        have hk' : k = .free := eq_of_beq hk
        subst hk'
        exact List.mem_cons_self
      · have hc' : (if (k == NameKind.free && env.scope.kind == .function && env.kindOf x == some .cell) = true then (x, NameKind.cell) else (x, k)) = (x, k) := if_neg hc
        simp only [hc', List.lookup_cons, beq_self_eq_true] at h
        have hk : k = .cell ∨ k = .free := by
          rcases h with h | h
          · exact .inl (Option.some.inj h)
          · exact .inr (Option.some.inj h)
        rcases hk with hk | hk
        · exact absurd hk (hn (x, k) List.mem_cons_self)
        · subst hk; exact List.mem_cons_self
    | false =>
      refine List.mem_cons_of_mem _ (ih ?_)
      by_cases hc : (k == NameKind.free && env.scope.kind == .function && env.kindOf n == some .cell) = true
      · have hc' : (if (k == NameKind.free && env.scope.kind == .function && env.kindOf n == some .cell) = true then (n, NameKind.cell) else (n, k)) = (n, NameKind.cell) := if_pos hc
        simp only [hc', List.lookup_cons, hx] at h
        exact h
      · have hc' : (if (k == NameKind.free && env.scope.kind == .function && env.kindOf n == some .cell) = true then (n, NameKind.cell) else (n, k)) = (n, k) := if_neg hc
        simp only [hc', List.lookup_cons, hx] at h
        exact h
theorem relabel_lookup_free {env : Env} {x : Str} : ∀ {names : List (Str × NameKind)}, names.lookup x = some .free →
    (names.map fun (n, k) => if (k == NameKind.free && env.scope.kind == .function && env.kindOf n == some .cell) = true then (n, NameKind.cell) else (n, k)).lookup x = some .cell ∨
      (names.map fun (n, k) => if (k == NameKind.free && env.scope.kind == .function && env.kindOf n == some .cell) = true then (n, NameKind.cell) else (n, k)).lookup x = some .free
  | [], h => by cases h
  | (n, k) :: r, h => by
    have ih := @relabel_lookup_free env x r
    rw [List.map_cons]
    rw [List.lookup_cons] at h
    cases hx : x == n with
    | true =>
      rw [hx] at h
      have hk : k = .free := Option.some.inj h
      subst hk
      by_cases hc : (NameKind.free == NameKind.free && env.scope.kind == .function && env.kindOf n == some .cell) = true
      · have hc' : (if (NameKind.free == NameKind.free && env.scope.kind == .function && env.kindOf n == some .cell) = true then (n, NameKind.cell) else (n, NameKind.free)) = (n, NameKind.cell) := if_pos hc
        simp only [hc', List.lookup_cons, hx]
        exact .inl trivial
      · have hc' : (if (NameKind.free == NameKind.free && env.scope.kind == .function && env.kindOf n == some .cell) = true then (n, NameKind.cell) else (n, NameKind.free)) = (n, NameKind.free) := if_neg hc
        simp only [hc', List.lookup_cons, hx]
        exact .inr trivial
    | false =>
      rw [hx] at h
      have q := ih h
      by_cases hc : (k == NameKind.free && env.scope.kind == .function && env.kindOf n == some .cell) = true
      · have hc' : (if (k == NameKind.free && env.scope.kind == .function && env.kindOf n == some .cell) = true then (n, NameKind.cell) else (n, k)) = (n, NameKind.cell) := if_pos hc
        simp only [hc', List.lookup_cons, hx]
        exact q
      · have hc' : (if (k == NameKind.free && env.scope.kind == .function && env.kindOf n == some .cell) = true then (n, NameKind.cell) else (n, k)) = (n, k) := if_neg hc
        simp only [hc', List.lookup_cons, hx]
        exact q
theorem mem_of_lookup_free {x : Str} {k : NameKind} : ∀ {names : List (Str × NameKind)}, names.lookup x = some k → (x, k) ∈ names := fun h => PySem.mem_of_lookup h

def Cx.comp (X : Cx) (scope : Scope) (cl : List (Str × Addr)) (C : Addr) (s₀ : Shared) (H₀ : Hp) (fp : List Addr) (N' : List Str) : Cx :=
  { prog := X.prog, w := X.w, K := X.K, mg := X.mg, base := X.base, A := X.A, N := N', s₀ := s₀, H₀ := H₀, env := compEnvC scope cl C X.env, outer := X.stack, stack := X.stack, ex := fp, fn := fun _ => false, calm := X.calm, pn := [], xe := fun _ _ => False }

structure CompScope (X : Cx) (N' : List Str) (ix : List (Option Nat)) (scope : Scope) : Prop where
  kind : scope.kind = .function
  nocell : ∀ y ∈ scope.names, y.2 ≠ .cell
  names : ∀ y ∈ scope.names, y.2 = .local → scope.names.lookup y.1 = some .local
  free : ∀ y ∈ scope.names, y.2 = .free → X.env.kindOf y.1 = some .cell ∨ X.env.kindOf y.1 = some .free
  len : ix.length = N'.length
  ixok : ∀ (i j : Nat) (x : Str), ix[i]? = some (some j) → N'[i]? = some x → X.N[j]? = some x ∧ scope.names.lookup x = some .free

def tau (ix : List (Option Nat)) (σ : St) : St := ix.map fun o => match o with | none => none | some j => (σ[j]?).join

def tComp (ix : List (Option Nat)) (wi : TI) (g : TG) (tt : TT) (te : TE) : TE := fun σ H Q =>
  wi σ H fun J H1 => ∀ D, H1 D = none →
    ∃ W : Nat → Nat → List V → Hp → Prop, (∃ m, W 0 m [] (upd H1 D (.lst []))) ∧
    ∀ i m acc H2, W i m acc H2 → H2 D = some (.lst acc) →
      (J.stop i H2 ∧ Q (.ref D) H2) ∨
      (J.go i H2 ∧ acc.length < sizeLine ∧ ∀ x H3, J.yld i H2 x H3 → g x (tau ix σ) H3 fun τ H4 => (τ.length = ix.length ∧ ∀ (k : Nat) v, (tau ix σ)[k]? = some (some v) → τ[k]? = some (some v)) ∧
        tt τ H4 fun b H5 => if b = true then te τ H5 fun y H6 => H6 D = some (.lst acc) ∧ ∃ m', m' < m ∧ W (i + 1) m' (acc ++ [y]) (upd H6 D (.lst (acc ++ [y])))
          else H5 D = some (.lst acc) ∧ ∃ m', m' < m ∧ W (i + 1) m' acc H5)

def PTs (X : Cx) (ifs : List Expr) (t : TT) : Prop :=
  ∀ (pins : List (Addr × Obj)) (s : Shared) (σ : St) (H : Hp) (Q : Bool → Hp → Prop), Inv X pins σ H s → t σ H Q →
    wpAny (model X.prog X.w) X.A (forIn ifs true fun c r => if r = true then do let ok ← isTrue c X.env (eval c X.env); pure (ForInStep.yield ok) else pure (ForInStep.yield r)) (TP X pins σ Q) X.xe s
def tTrue : TT := fun _ H Q => Q true H
theorem pts_nil {X : Cx} : PTs X [] tTrue := fun pins s σ H Q I h => wpAny_tests_nil ⟨H, I, h⟩
section
variable {prog : Program} {w : World} {A : Around} {R : Result → Shared → Prop} {s : Shared}
theorem compLoop_any {elt target iter : Expr} {ifs : List Expr} {scope : Scope} {pos : Pos} {it acc : Value} {env : Env} (I : Nat → Shared → Prop)
    (turn : ∀ n s, I n s → wpAny (model prog w) A (pyNext it) (fun r s₁ => match r with
      | none => R (.ok .next) s₁
      | some v => wpAny (model prog w) A (letOwnedTupleGo target it v) (fun _ s₁' => wpAny (model prog w) A (assign target env v) (fun _ s₂ =>
          wpAny (model prog w) A (forIn ifs true fun c r => if r = true then do let ok ← isTrue c env (eval c env); pure (ForInStep.yield ok) else pure (ForInStep.yield r)) (fun ok s₃ =>
            if ok = true then wpAny (model prog w) A (eval elt env) (fun x s₄ =>
              wpAny (model prog w) A (call (.builtin "list.append") [acc, x]) (fun _ s₅ => ∃ m, m < n ∧ I m s₅) (fun _ _ => False) s₄) (fun _ _ => False) s₃
            else ∃ m, m < n ∧ I m s₃) (fun _ _ => False) s₂) (fun _ _ => False) s₁') (fun _ _ => False) s₁) (fun _ _ => False) s)
    (n : Nat) (h : I n s) :
    codeAny (model prog w) A (.compLoop (.ListComp elt [⟨target, iter, ifs, 0⟩] scope pos) 0 it acc env) R s := by
  refine codeAny_loop rfl I (fun n s hI => ?_) n h
  show wpAny _ A ((compTurn (.ListComp elt [⟨target, iter, ifs, 0⟩] scope pos) 0 it acc env).onRaise (fun x => do noteFrame x env; theTreesLotGoes x)) _ _ s
  refine wpAny_noted ?_
  rw [compTurn_list]
  refine wpAny_bind (wpAny_standAt (wpAny_bind (wpAny_mono (turn n s hI) (fun r s₁ h₁ => ?_) fun _ _ h' => h'.elim)))
  cases r with
  | none => exact wpAny_pure h₁
  | some v =>
    refine wpAny_bind (wpAny_mono h₁ (fun _ s₁' h₁' => ?_) fun _ _ h' => h'.elim)
    refine wpAny_bind (wpAny_mono h₁' (fun _ s₂ h₂ => wpAny_bind (wpAny_mono h₂ (fun ok s₃ h₃ => ?_) fun _ _ h' => h'.elim)) fun _ _ h' => h'.elim)
    cases ok with
    | false => exact wpAny_pure ⟨rfl, h₃⟩
    | true =>
      exact wpAny_bind (wpAny_bind (wpAny_mono h₃ (fun x s₄ h₄ => wpAny_bind (wpAny_mono h₄ (fun _ s₅ h₅ => wpAny_pure (wpAny_pure ⟨rfl, h₅⟩)) fun _ _ h' => h'.elim)) fun _ _ h' => h'.elim))
end
section
variable {X : Cx}
theorem comp_start {pins : List (Addr × Obj)} {σ : St} {H1 : Hp} {s2 : Shared} {N' : List Str} {ix : List (Option Nat)} {scope : Scope} {fp : List Addr} {h₁ : Heap}
    (S : CompScope X N' ix scope) (I : Inv X pins σ H1 s2) (f2 : ∀ b ∈ fp, FpOk X pins H1 b) (hfp : ∀ b ∈ fp, b < s2.heap.objs.size)
    (hns : h₁.Ns (s2.heap.objs.size + 1) (fun x => ([] : List (Str × Value)).reverse.lookup x))
    (hsb : Heap.SameBut (s2.heap.objs.size + 1) ((s2.heap.push { cls := .type "list", dict := none, data := .seq ([] : List Value).toArray }).push { cls := .type "dict", data := .dict #[] }) h₁) (tk : Nat) :
    Inv (X.comp scope (clOf X.env.cells scope.names []) (s2.heap.objs.size + 1) { s2 with heap := s2.heap.push { cls := .type "list", dict := none, data := .seq ([] : List Value).toArray } } (upd H1 s2.heap.objs.size (.lst [])) fp N') [] (tau ix σ)
      (upd H1 s2.heap.objs.size (.lst [])) { s2 with heap := h₁, toks := tk } := by
  have hfr : ∀ y ∈ scope.names, y.2 = .free → ∃ c, X.env.cells.lookup y.1 = some c := fun y hy e => I.ok.has _ (S.free y hy e)
  have fwd : ∀ x c, (clOf X.env.cells scope.names []).lookup x = some c → X.env.cells.lookup x = some c := fun x c h => clOf_fwd hfr (fun z hz => by cases hz) h
  have I3 : Inv X pins σ (upd H1 s2.heap.objs.size (.lst [])) { s2 with heap := s2.heap.push { cls := .type "list", dict := none, data := .seq ([] : List Value).toArray } } := I.lnew (t' := s2.toks) (ys := []) .nil (Nat.zero_le _)
  have sz3 : (s2.heap.push { cls := .type "list", dict := none, data := .seq ([] : List Value).toArray }).objs.size = s2.heap.objs.size + 1 := Heap.size_push ..
  have old : ∀ b o, (s2.heap.push { cls := .type "list", dict := none, data := .seq ([] : List Value).toArray }).get? b = some o → h₁.get? b = some o := fun b o e =>
    hsb.extBut b o (by have := Heap.lt_size e; rw [sz3] at this; exact Nat.ne_of_lt this) (Heap.get?_push_of_some _ e)
  have ncell : ∀ x c, X.env.cells.lookup x = some c → c < s2.heap.objs.size := fun x c e => by
    obtain ⟨v, z⟩ := I.cell x c e
    exact z.lt
  refine ⟨⟨I.ok.mod, ?_, I.ok.glob, I.ok.blt, ?_, fun x y c h1 h2 => I.ok.inj x y c (fwd x c h1) (fwd y c h2), fun x hx => ?_, fun _ _ h => (nomatch h), I.ok.hd, I.ok.frames, .inl rfl, fun b hb => ⟨?_, fun x c e => ?_⟩, fun b o e => I3.bs b o e, ?_, fun b o e hb => ?_, fun b hb => ?_, I3.stack, I3.stkFree⟩,
    rfl, I.bare, Un.kept old, ⟨_, hns, fun i x v h1 h2 h3 => ?_⟩, fun x c e => ?_, ?_, fun x c e => ?_, fun p hp => absurd (show p ∈ ([] : List (Addr × Obj)) from hp) (by simp), I3.hok.kept old, ?_⟩
  · show (relabel scope X.env).kind = .function
    exact S.kind
  · show (s2.heap.push { cls := .type "list", dict := none, data := .seq ([] : List Value).toArray }).objs.size ≤ s2.heap.objs.size + 1
    rw [sz3]; exact Nat.le_refl _
  · have hx' : (x, NameKind.free) ∈ scope.names := relabel_free (env := X.env) S.nocell hx
    obtain ⟨c, hc⟩ := hfr _ hx' rfl
    exact ⟨c, clOf_acc hc (.inl hx')⟩
  · show b ≠ s2.heap.objs.size + 1
    exact Nat.ne_of_lt (Nat.lt_succ_of_lt (hfp b hb))
  · exact (f2 b hb).2.2.2.2.1 x c (fwd x c e)
  · show X.base.objs.size ≤ (s2.heap.push { cls := .type "list", dict := none, data := .seq ([] : List Value).toArray }).objs.size
    rw [sz3]
    exact Nat.le_succ_of_le (Nat.le_trans I.ok.bsz I.sz)
  · rcases (f2 b hb).2.2.2.1 with z | z
    · exact I.ok.noex b o e z
    · exact absurd (Nat.lt_of_lt_of_le (Heap.lt_size e) (Nat.le_trans I.ok.bsz z)) (Nat.lt_irrefl _)
  · intro hm
    rcases List.mem_cons.mp (I.stkSub b hm) with z | z
    · exact (f2 b hb).2.1 z
    · exact (f2 b hb).2.2.1 z
  · have hi : ∃ j, ix[i]? = some (some j) ∧ σ[j]? = some (some v) := by
      unfold tau at h2
      rw [List.getElem?_map] at h2
      cases e : ix[i]? with
      | none => rw [e] at h2; cases h2
      | some o =>
        rw [e] at h2
        cases o with
        | none => cases h2
        | some j =>
          refine ⟨j, rfl, ?_⟩
          have h2' : (σ[j]?).join = some v := Option.some.inj h2
          cases e2 : σ[j]? with
          | none => rw [e2] at h2'; cases h2'
          | some q => rw [e2] at h2'; exact congrArg some h2'
    obtain ⟨j, hj, hσ⟩ := hi
    obtain ⟨hN, hfree⟩ := S.ixok i j x hj h1
    have hmem : (x, NameKind.free) ∈ scope.names := mem_of_lookup_free hfree
    have hk := S.free _ hmem rfl
    obtain ⟨m, hn, hl⟩ := I3.loc
    obtain ⟨u, r, l⟩ := hl j x v hN hσ (by rcases hk with k | k; exact .inr (.inl k); exact .inr (.inr k))
    refine ⟨u, r, ?_⟩
    rcases l with ⟨k, _⟩ | ⟨_, c, hc, z⟩
    · rcases hk with q | q
      · rw [show X.env.kindOf x = some .cell from q] at k; cases k
      · rw [show X.env.kindOf x = some .free from q] at k; cases k
    · refine .inr ⟨?_, c, clOf_acc hc (.inl hmem), z.keeps old⟩
      exact relabel_lookup_free (env := X.env) hfree
  · obtain ⟨v, z⟩ := I3.cell x c (fwd x c e)
    exact ⟨v, z.keeps old⟩
  · show (upd H1 s2.heap.objs.size (.lst [])) (s2.heap.objs.size + 1) = none
    rw [upd_ne (Nat.succ_ne_self _)]
    exact I.hok.fresh (Nat.le_succ _)
  · exact I3.freeC x c (fwd x c e)
  · show (tau ix σ).length = N'.length
    unfold tau
    rw [List.length_map]
    exact S.len

theorem comp_block {pins : List (Addr × Obj)} {σ : St} {H1 : Hp} {s2 : Shared} {N' : List Str} {ix : List (Option Nat)} {scope : Scope} {fp : List Addr} {it : Addr} {tn : Nat → Heap → Prop} {J : It}
    {elt tg iter : Expr} {ifs : List Expr} {pos : Pos} {g : TG} {tt : TT} {te : TE} {Q : VK} {RR : Value → Addr → Result → Shared → Prop}
    (S : CompScope X N' ix scope) (hcalm : X.calm = true) (I : Inv X pins σ H1 s2) (T : Turn X.prog X.w X.K tg J fp it tn) (st : tn 0 s2.heap) (f2 : ∀ b ∈ fp, FpOk X pins H1 b)
    (hg : ∀ C s₀ H₀, PG (X.comp scope (clOf X.env.cells scope.names []) C s₀ H₀ fp N') tg g)
    (ht : ∀ C s₀ H₀, PTs (X.comp scope (clOf X.env.cells scope.names []) C s₀ H₀ fp N') ifs tt)
    (he : ∀ C s₀ H₀, PE (X.comp scope (clOf X.env.cells scope.names []) C s₀ H₀ fp N') elt te)
    (h : ∀ D, H1 D = none →
      ∃ W : Nat → Nat → List V → Hp → Prop, (∃ m, W 0 m [] (upd H1 D (.lst []))) ∧
      ∀ i m acc H2, W i m acc H2 → H2 D = some (.lst acc) →
        (J.stop i H2 ∧ Q (.ref D) H2) ∨
        (J.go i H2 ∧ acc.length < sizeLine ∧ ∀ x H3, J.yld i H2 x H3 → g x (tau ix σ) H3 fun τ H4 => (τ.length = ix.length ∧ ∀ (k : Nat) v, (tau ix σ)[k]? = some (some v) → τ[k]? = some (some v)) ∧
          tt τ H4 fun b H5 => if b = true then te τ H5 fun y H6 => H6 D = some (.lst acc) ∧ ∃ m', m' < m ∧ W (i + 1) m' (acc ++ [y]) (upd H6 D (.lst (acc ++ [y])))
            else H5 D = some (.lst acc) ∧ ∃ m', m' < m ∧ W (i + 1) m' acc H5))
    (hRR : ∀ D C s' H', Inv X pins σ H' s' → Q (.ref D) H' → (∃ m, s'.heap.Ns C m) → H' C = none → C ≠ X.env.locals → X.s₀.heap.objs.size ≤ C → (∀ x c, X.env.cells.lookup x = some c → c ≠ C) → (∀ p ∈ X.pn ++ pins, p.1 ≠ C) → RR (.ref D) C (.ok .next) s') :
    wpAny (model X.prog X.w) X.A (newList []) (fun acc s₃ => wpAny (model X.prog X.w) X.A (newFunctionEnv scope X.env.globals (clOf X.env.cells scope.names []) [] X.env.qual none .none (some X.env)) (fun cenv s₄ =>
      codeAny (model X.prog X.w) X.A (.compStart (.ListComp elt [⟨tg, iter, ifs, 0⟩] scope pos) 0 (.ref it) acc { cenv with scope := relabel scope X.env }) (RR acc cenv.locals) s₄) X.xe s₃) X.xe s2 := by
  have hfp : ∀ b ∈ fp, b < s2.heap.objs.size := fun b hb => by
    obtain ⟨o, e, _⟩ := T.obj _ _ st b hb
    exact Heap.lt_size e
  refine wpAny_newObj_type (wpAny_newFunctionEnv S.nocell (by intro y hy; simp at hy) (fun h₁ hns₁ hsb₁ => ?_) S.kind)
  have sz3 : (s2.heap.push { cls := .type "list", dict := none, data := .seq ([] : List Value).toArray }).objs.size = s2.heap.objs.size + 1 := Heap.size_push ..
  dsimp only at hns₁ hsb₁ ⊢
  rw [sz3] at hns₁ hsb₁ ⊢
  obtain ⟨W, ⟨m0, w0⟩, turn⟩ := h s2.heap.objs.size (I.hok.fresh (Nat.le_refl _))
  have I4 := comp_start (N' := N') (ix := ix) (fp := fp) S I f2 hfp hns₁ hsb₁ (s2.toks + ([] : List (Str × Value)).length)
  generalize hX' : X.comp scope (clOf X.env.cells scope.names []) (s2.heap.objs.size + 1) { s2 with heap := s2.heap.push { cls := .type "list", dict := none, data := .seq ([] : List Value).toArray } } (upd H1 s2.heap.objs.size (.lst [])) fp N' = X' at I4
  have old : ∀ b o, s2.heap.get? b = some o → h₁.get? b = some o := fun b o e =>
    hsb₁.extBut b o (Nat.ne_of_lt (Nat.lt_succ_of_lt (Heap.lt_size e))) (Heap.get?_push_of_some _ (Heap.get?_push_of_some _ e))
  have st4 : tn 0 h₁ := T.keep _ _ _ st fun b _ o e => old b o e
  have n4 : ∀ b ∈ fp, (upd H1 s2.heap.objs.size (.lst [])) b = none := fun b hb => by rw [upd_ne (Nat.ne_of_lt (hfp b hb))]; exact (f2 b hb).1
  have stat : ∀ {H' : Hp}, (∀ b ∈ fp, H' b = none) → ∀ b ∈ fp, FpOk X' [] H' b := fun {H'} hn b hb => by
    subst hX'
    refine ⟨hn b hb, Nat.ne_of_lt (Nat.lt_succ_of_lt (hfp b hb)), fun hm => ?_, .inl hb, fun x c e => ?_, fun p hp => absurd (show p ∈ ([] : List (Addr × Obj)) from hp) (by simp)⟩
    · rcases List.mem_cons.mp (I.stkSub b hm) with z | z
      · exact (f2 b hb).2.1 z
      · exact (f2 b hb).2.2.1 z
    · exact (f2 b hb).2.2.2.2.1 x c (clOf_fwd (fun y hy e => I.ok.has _ (S.free y hy e)) (fun z hz => by cases hz) e)
  have loop : ∀ s₄ : Shared, s₄ = { s2 with heap := h₁, toks := s2.toks + ([] : List (Str × Value)).length } →
      codeAny (model X.prog X.w) X.A (.compLoop (.ListComp elt [⟨tg, iter, ifs, 0⟩] scope pos) 0 (.ref it) (.ref s2.heap.objs.size) (compEnvC scope (clOf X.env.cells scope.names []) (s2.heap.objs.size + 1) X.env)) (RR (.ref s2.heap.objs.size) (s2.heap.objs.size + 1)) s₄ := by
    rintro s₄ rfl
    refine compLoop_any (fun n s' => ∃ i acc H', Inv X' [] (tau ix σ) H' s' ∧ tn i s'.heap ∧ (∀ b ∈ fp, H' b = none) ∧ H' s2.heap.objs.size = some (.lst acc) ∧ W i n acc H') ?_ m0
      ⟨0, [], _, I4, st4, n4, upd_same, w0⟩
    rintro n s5 ⟨i, acc, H5, I5, st5, fr5, hD5, w5⟩
    have pE : X'.prog = X.prog := by subst hX'; rfl
    have wE : X'.w = X.w := by subst hX'; rfl
    have kE : X'.K = X.K := by subst hX'; rfl
    have aE : X'.A = X.A := by subst hX'; rfl
    have cE : X'.calm = true := by subst hX'; exact hcalm
    rcases turn i n acc H5 w5 hD5 with ⟨stop, q⟩ | ⟨go, hz, step⟩
    · have z := T.done X' pE wE kE cE i [] s5 (tau ix σ) H5 (fun _ _ => False) I5 (stat fr5) st5 stop
      rw [aE] at z
      refine thn z fun r s6 ⟨hr, I6⟩ => ?_
      subst hr
      have I6' := I6
      subst hX'
      have bs6 := I6.base
      have un : Un (frs X.stack) fp H1 H5 s2.heap s6.heap := Un.trans (Un.laid (o := .lst []) (fun b u q => Heap.get?_push_of_some _ q) (Nat.le_refl _) (I.hok.fresh (Nat.le_refl _))) bs6
      have IX : Inv X pins σ H5 s6 := Inv.call' I I6.os un I6.hok I6.bare fun b hb => ⟨(f2 b hb).2.2.2.1, (f2 b hb).2.1, (f2 b hb).2.2.2.2.1, (f2 b hb).2.2.2.2.2⟩
      refine hRR _ _ s6 H5 IX q ?_ I6.free ?_ ?_ ?_ ?_
      · obtain ⟨m, hn, _⟩ := I6.loc
        exact ⟨m, hn⟩
      · exact Nat.ne_of_gt (Nat.lt_succ_of_lt I.lt)
      · exact Nat.le_succ_of_le I.sz
      · intro x c e
        obtain ⟨v, z⟩ := I.cell x c e
        exact Nat.ne_of_lt (Nat.lt_succ_of_lt z.lt)
      · intro p hp
        exact Nat.ne_of_lt (Nat.lt_succ_of_lt (Heap.lt_size (I.pin p hp).1))
    · have z := T.item X' pE wE kE cE i [] s5 (tau ix σ) H5 (fun _ _ => False) I5 (stat fr5) st5 go
      rw [aE] at z
      refine thn z fun r s6 ⟨u, hr, h6⟩ => ?_
      subst hr
      refine thn h6 fun _ s7 ⟨x, H7, I7, r7, y7, st7, fr7⟩ => ?_
      have I7' := I7.pinned (stat fr7) (T.obj _ _ st7)
      have hg' := hg (s2.heap.objs.size + 1) { s2 with heap := s2.heap.push { cls := .type "list", dict := none, data := .seq ([] : List Value).toArray } } (upd H1 s2.heap.objs.size (.lst []))
      have ht' := ht (s2.heap.objs.size + 1) { s2 with heap := s2.heap.push { cls := .type "list", dict := none, data := .seq ([] : List Value).toArray } } (upd H1 s2.heap.objs.size (.lst []))
      have he' := he (s2.heap.objs.size + 1) { s2 with heap := s2.heap.push { cls := .type "list", dict := none, data := .seq ([] : List Value).toArray } } (upd H1 s2.heap.objs.size (.lst []))
      subst hX'
      have back : ∀ {τ : St} {H8 : Hp} {s8 : Shared}, (τ.length = ix.length ∧ ∀ (k : Nat) v, (tau ix σ)[k]? = some (some v) → τ[k]? = some (some v)) →
          Inv (X.comp scope (clOf X.env.cells scope.names []) (s2.heap.objs.size + 1) { s2 with heap := s2.heap.push { cls := .type "list", dict := none, data := .seq ([] : List Value).toArray } } (upd H1 s2.heap.objs.size (.lst [])) fp N') ([] ++ pinsAt fp s7.heap) τ H8 s8 →
          ∀ {acc' : List V} {m' : Nat}, H8 s2.heap.objs.size = some (.lst acc') → W (i + 1) m' acc' H8 → m' < n →
          ∃ m, m < n ∧ ∃ i acc H', Inv (X.comp scope (clOf X.env.cells scope.names []) (s2.heap.objs.size + 1) { s2 with heap := s2.heap.push { cls := .type "list", dict := none, data := .seq ([] : List Value).toArray } } (upd H1 s2.heap.objs.size (.lst [])) fp N') [] (tau ix σ) H' s8 ∧ tn i s8.heap ∧ (∀ b ∈ fp, H' b = none) ∧ H' s2.heap.objs.size = some (.lst acc) ∧ W i m acc H' := fun {τ H8 s8} hτ I8 {acc' m'} hD8 w8 hm => by
        refine ⟨m', hm, i + 1, acc', H8, (Inv.unpinned I8).weak (by rw [hτ.1]; unfold tau; rw [List.length_map]) hτ.2, T.keep _ _ _ st7 fun b hb o e => (I8.pin (b, o) (List.mem_append_right _ (List.mem_append_right _ (mem_pinsAt hb e)))).1, fun b hb => ?_, hD8, w8⟩
        obtain ⟨o, e, d⟩ := T.obj _ _ st7 b hb
        exact (I8.pin (b, o) (List.mem_append_right _ (List.mem_append_right _ (mem_pinsAt hb e)))).2.1
      refine thn (hg' _ s7 (tau ix σ) H7 x u _ I7' r7 (step x H7 y7)) fun _ s8 ⟨τ, H8, I8, hτ, q8⟩ => ?_
      refine thn (ht' _ s8 τ H8 _ I8 q8) fun b s9 ⟨H9, I9, q9⟩ => ?_
      cases b with
      | false =>
        obtain ⟨hD9, m', hm, w9⟩ := q9
        exact back hτ I9 hD9 w9 hm
      | true =>
        refine thn (he' _ s9 τ H9 _ I9 q9) fun yv s10 ⟨y, H10, I10, r10, hD10, m', hm, w10⟩ => ?_
        refine thn (mt_append _ s10 τ H10 (.ref s2.heap.objs.size) [y] (.ref s2.heap.objs.size) [yv] (fun v H => v = .non ∧ H = upd H10 s2.heap.objs.size (.lst (acc ++ [y]))) I10 rfl (.cons r10 .nil) ⟨_, acc, y, rfl, rfl, hD10, hz, rfl, rfl⟩) fun _ s11 ⟨v, H11, I11, r11, hv, hH⟩ => ?_
        subst hH
        exact back hτ I11 upd_same w10 hm
  exact codeAny_compStart_list (loop _ rfl) (T.self _ 0 _ _ _ st4 (loop _ rfl))

theorem pe_comp {elt tg iter : Expr} {ifs : List Expr} {scope : Scope} {pos : Pos} {N' : List Str} {ix : List (Option Nat)} {wi : TI} {g : TG} {tt : TT} {te : TE}
    (S : CompScope X N' ix scope) (hcalm : X.calm = true) (hi : PI X tg iter wi)
    (hg : ∀ C s₀ H₀ fp, PG (X.comp scope (clOf X.env.cells scope.names []) C s₀ H₀ fp N') tg g)
    (ht : ∀ C s₀ H₀ fp, PTs (X.comp scope (clOf X.env.cells scope.names []) C s₀ H₀ fp N') ifs tt)
    (he : ∀ C s₀ H₀ fp, PE (X.comp scope (clOf X.env.cells scope.names []) C s₀ H₀ fp N') elt te)
    (hs : ∀ x, foldedSetIterable iter X.env x = pure x := by intro _; rfl) :
    PE X (.ListComp elt [⟨tg, iter, ifs, 0⟩] scope pos) (tComp ix wi g tt te) := by
  intro pins s σ H Q I h
  rw [eval_ListComp]
  refine wpAny_comprehension_free (use := none) rfl hs (closure_of fun y hy e => I.ok.has _ (S.free y hy e)) S.kind S.names (thn (hi pins s σ H _ I h) fun v s1 h1 => thn h1 fun itv s2 h2 => ?_)
  obtain ⟨it, fp, tn, J, H2, e, I2, T, st2, f2, hW⟩ := h2
  subst e
  refine comp_block (RR := fun acc C => compPost (model X.prog X.w) X.A X.xe none (EP X pins σ Q) acc C) S hcalm I2 T st2 f2 (fun C s₀ H₀ => hg C s₀ H₀ fp) (fun C s₀ H₀ => ht C s₀ H₀ fp) (fun C s₀ H₀ => he C s₀ H₀ fp) hW ?_
  intro D C s' H' I' q hn hC hL h1 h2 h3
  obtain ⟨m, hn⟩ := hn
  refine ⟨m, hn, fun h' hs' => ?_⟩
  have I'' : Inv X pins σ H' { s' with heap := h' } := I'.turned (t' := s'.toks) (fun b o hb e => hs'.extBut b o hb e) hC hL.symm.symm (.inr h1) h2 h3
  exact ⟨.ref D, H', I'', rfl, q⟩

theorem ps_setC {elt tg iter : Expr} {ifs : List Expr} {scope : Scope} {pos pos' spos : Pos} {N' : List Str} {ix : List (Option Nat)} {wi : TI} {g : TG} {tt : TT} {te : TE} {k : Nat} {x : Str}
    (hN : X.N.Nodup) (hk : X.N[k]? = some x) (hx : X.env.scope.names.lookup x = some .local)
    (S : CompScope X N' ix scope) (hcalm : X.calm = true) (hi : PI X tg iter wi)
    (hg : ∀ C s₀ H₀ fp, PG (X.comp scope (clOf X.env.cells scope.names []) C s₀ H₀ fp N') tg g)
    (ht : ∀ C s₀ H₀ fp, PTs (X.comp scope (clOf X.env.cells scope.names []) C s₀ H₀ fp N') ifs tt)
    (he : ∀ C s₀ H₀ fp, PE (X.comp scope (clOf X.env.cells scope.names []) C s₀ H₀ fp N') elt te)
    (hsw : swapsWith (.ListComp elt [⟨tg, iter, ifs, 0⟩] scope pos) (some (.Name x pos')) spos.line X.env = pure true)
    (hs : ∀ x, foldedSetIterable iter X.env x = pure x := by intro _; rfl) :
    PS X (.Assign [.Name x pos'] (.ListComp elt [⟨tg, iter, ifs, 0⟩] scope pos) spos) (tAsg (tComp ix wi g tt te) (gName k)) := by
  intro pins s σ H D I h
  rw [exec_Assign_Name_used _ _ _ _ hsw]
  refine wpAny_bind (wpAny_standAt (wpAny_bind ?_))
  show wpAny _ _ (do let _ ← comprehension (.ListComp elt [⟨tg, iter, ifs, 0⟩] scope pos) scope X.env _ (newList []) false (eval iter X.env) (some (assign (.Name x pos') X.env))) _ _ s
  refine wpAny_bind (wpAny_mono (wpAny_comprehension_free (use := some (assign (.Name x pos') X.env)) (Q := fun _ s' => SP X pins D .next s') rfl hs (closure_of fun y hy e => I.ok.has _ (S.free y hy e)) S.kind S.names
    (thn (hi pins s σ H _ I h) fun v s1 h1 => thn h1 fun itv s2 h2 => ?_)) (fun _ s' hq => wpAny_pure (wpAny_pure hq)) fun _ _ e => e)
  obtain ⟨it, fp, tn, J, H2, e, I2, T, st2, f2, hW⟩ := h2
  subst e
  refine comp_block (RR := fun acc C => compPost (model X.prog X.w) X.A X.xe (some (assign (.Name x pos') X.env)) (fun _ s' => SP X pins D .next s') acc C) (Q := fun x H1 => gName k x σ H1 D.nx) S hcalm I2 T st2 f2 (fun C s₀ H₀ => hg C s₀ H₀ fp) (fun C s₀ H₀ => ht C s₀ H₀ fp) (fun C s₀ H₀ => he C s₀ H₀ fp) hW ?_
  intro Dd C s' H' I' q hn hC hL h1 h2 h3
  obtain ⟨m, hn⟩ := hn
  show wpAny _ _ (assign (.Name x pos') X.env (.ref Dd)) _ _ _
  refine wpAny_assign_Name (store_ok2 I' hN hk (.inl hx) (v := .ref Dd) rfl (fun s'' I'' hsame => ?_) (.inr hx))
  obtain ⟨a, hsb, ha⟩ := hsame
  have haC : C ≠ a := by
    rcases ha with z | z
    · rw [z]; exact hL
    · exact fun e => h2 x a z e.symm
  refine ⟨m, hn.sameBut hsb haC, fun h' hs' => ?_⟩
  have I3 : Inv X pins (σ.set k (some (.ref Dd))) H' { s'' with heap := h' } := I''.turned (t' := s''.toks) (fun b o hb e => hs'.extBut b o hb e) hC hL (.inr h1) h2 h3
  exact ⟨_, H', I3, q⟩
end
end L2
set_option Elab.async false
set_option linter.all false
set_option maxRecDepth 100000
namespace L2
open PySem PySem.Spec PyProof.Rows
section
variable {X : Cx} {a b : Expr} {ta tb : TE} {pos : Pos}
theorem op_le_str : OpR X (compareOp .LtE) (fun x y H Q => ∃ i j, x = .str i ∧ y = .str j ∧ Q (.bl (!decide (j.cps.toList < i.cps.toList))) H) := by
  intro pins s σ H x y v u Q I rx ry h
  obtain ⟨i, j, rfl, rfl, q⟩ := h
  obtain ⟨t, rfl⟩ := rx
  obtain ⟨t', rfl⟩ := ry
  exact PySem.P.le_str ⟨.bl _, H, I, rfl, q⟩
theorem op_gt_str : OpR X (compareOp .Gt) (fun x y H Q => ∃ i j, x = .str i ∧ y = .str j ∧ Q (.bl (decide (j.cps.toList < i.cps.toList))) H) := by
  intro pins s σ H x y v u Q I rx ry h
  obtain ⟨i, j, rfl, rfl, q⟩ := h
  obtain ⟨t, rfl⟩ := rx
  obtain ⟨t', rfl⟩ := ry
  exact PySem.P.gt_str ⟨.bl _, H, I, rfl, q⟩
theorem op_mul_str : OpR X (binaryOp .Mult) (fun x y H Q => ∃ i j, x = .str i ∧ y = .int j ∧ (i.length ≤ 16 ∧ 0 ≤ j ∧ j ≤ 1000) ∧ Q (.str (Txt.mul i j)) H) := by
  intro pins s σ H x y v u Q I rx ry h
  obtain ⟨i, j, rfl, rfl, ⟨h1, h2, h3⟩, q⟩ := h
  obtain ⟨t, rfl⟩ := rx
  obtain ⟨t', rfl⟩ := ry
  exact SB.mul (mulOk_of 16 1000 h1 (by omega) (by omega) (by decide) (by decide)) fun t' k => ⟨.str _, H, I.tok _, ⟨_, rfl⟩, q⟩

theorem range_all {n : Nat} {bs : List Bool} (hn : bs.length = n) : (List.range n).all (fun i => bs.getD i true) = bs.all id := by
  subst hn
  rw [Bool.eq_iff_iff, List.all_eq_true, List.all_eq_true]
  constructor
  · intro h x hx
    obtain ⟨i, hi, rfl⟩ := List.mem_iff_getElem.mp hx
    have := h i (List.mem_range.mpr hi)
    simpa [List.getD_eq_getElem?_getD, hi] using this
  · intro h i hi
    have hi' := List.mem_range.mp hi
    have := h _ (List.getElem_mem hi')
    simpa [List.getD_eq_getElem?_getD, hi'] using this
theorem vals_bl {bs : List Bool} : ∀ {us : List Value}, Vals (bs.map V.bl) us → us = bs.map Value.bool := by
  induction bs with
  | nil => intro us r; cases r; rfl
  | cons b bs ih => intro us r; cases r with | cons r1 r2 => rw [ih r2, show _ = Value.bool b from r1]; rfl
theorem call_all (hc : X.calm = true) : CallR X (.builtin "all") (fun xs H Q => ∃ (p : Addr) (bs : List Bool), xs = [.ref p] ∧ H p = some (.lst (bs.map V.bl)) ∧ Q (.bl (bs.all id)) H) := by
  intro pins s σ H xs us Q I r h
  obtain ⟨p, bs, e, hp, q⟩ := h
  subst e
  obtain ⟨u, rfl, ru⟩ := vals1 r
  obtain rfl : u = Value.ref p := ru
  obtain ⟨z, its, n, rv, hl, ho⟩ := I.lstM hp
  have ei := vals_bl rv
  have hI : s.heap.IsList p its.toArray := ⟨_, ho, rfl, n, rfl⟩
  have hne : p ≠ s.heap.objs.size := Nat.ne_of_lt (Heap.lt_size ho)
  refine call_all_walk (wpAny_pyIter_list hI ?_)
  refine ⟨s.heap.objs.size, _, _, _, _, _, fun i => bs.getD i true, rfl, Walks.list (A := X.A.in1) (I.ok.hd hc) s.heap.objs.size p hne its.toArray, ⟨⟨_, Heap.get?_push_size _ rfl, rfl, rfl⟩, ⟨_, Heap.get?_push_of_some _ ho, rfl, n, rfl⟩⟩, ?_, fun h' tk hk => ?_⟩
  · intro i v s' Q' E' hP hQ
    have hP' : its[i]? = some v := by simpa using hP
    rw [ei, List.getElem?_map] at hP'
    cases e : bs[i]? with
    | none => rw [e] at hP'; cases hP'
    | some b' =>
      rw [e] at hP'
      have ev : Value.bool b' = v := Option.some.inj hP'
      subst ev
      refine wpAny_truthy_bool ?_
      have : bs.getD i true = b' := by simp [List.getD_eq_getElem?_getD, e]
      dsimp only at hQ
      rw [this] at hQ
      exact hQ
  · rw [range_all (by rw [List.size_toArray, ei, List.length_map])]
    refine ⟨.bl _, H, ?_, rfl, q⟩
    exact I.kept (h' := h') (t' := tk) fun b o e => hk b o (by simp; exact Nat.ne_of_lt (Heap.lt_size e)) (Heap.get?_push_of_some _ e)
def Its (x : Str) : It := ⟨fun i _ => i < x.cps.size, fun i H v H' => H' = H ∧ ∃ c, x.cps[i]? = some c ∧ v = .str ⟨#[c]⟩, fun i _ => x.cps.size ≤ i⟩
def iStr (tl : TE) : TI := fun σ H R => tl σ H fun x H1 => ∃ z, x = .str z ∧ R (Its z) H1

theorem turn_strA {P : Program} {w : World} {K : PySem.W.Frag} {tg : Expr} (it : Addr) (x : Str) (t : Tok) : Turn P w K tg (Its x) [it] it (fun i h => h.IsStrIter it "str_ascii_iterator" x t i) where
  mem := by simp
  obj := fun i h st b hb => by
    have e : b = it := by simpa using hb
    subst e
    obtain ⟨o, e, c, d⟩ := st
    exact ⟨o, e, fun v z => by rw [d] at z; cases z⟩
  keep := fun i h h' st k => by obtain ⟨o, e, r⟩ := st; exact ⟨o, k it (by simp) o e, r⟩
  item := by
    intro X hP hw hK hc i pins s σ H E I hf st hg
    subst hP hw hK
    have hg' : i < x.cps.size := hg
    obtain ⟨f0, f1, f2, f3, f4, f5⟩ := hf it (by simp)
    refine wpAny_pyNext_ascii_item st (c := x.cps[i]) (by simp [hg']) fun h' st' sb => ?_
    have I1 : Inv X pins σ H { s with heap := h', toks := s.toks + 1 } := I.turned (fun b o hb e => (sb.2 b hb).trans e) f0 f1 f3 f4 f5
    refine ⟨_, rfl, ?_⟩
    have fin : ∃ y H', Inv X pins σ H' { s with heap := h', toks := s.toks + 1 } ∧ RelV y (.str ⟨#[x.cps[i]]⟩ s.toks) ∧ (Its x).yld i H y H' ∧ h'.IsStrIter it "str_ascii_iterator" x t (i + 1) ∧ ∀ b ∈ [it], H' b = none :=
      ⟨.str ⟨#[x.cps[i]]⟩, H, I1, ⟨_, rfl⟩, ⟨rfl, x.cps[i], by simp [hg'], rfl⟩, st', fun b hb => (hf b hb).1⟩
    unfold letOwnedTupleGo
    cases tg <;> exact wpAny_pure fin
  done := by
    intro X hP hw hK hc i pins s σ H E I hf st hg
    subst hP hw hK
    have hg' : x.cps.size ≤ i := hg
    obtain ⟨f0, f1, f2, f3, f4, f5⟩ := hf it (by simp)
    exact wpAny_pyNext_ascii_end (I.ok.hd hc) st (by simp [hg']) fun h' eb => ⟨rfl, I.turned (t' := s.toks) (fun b o hb e => eb b o hb e) f0 f1 f3 f4 f5⟩
  self := fun _ _ _ _ _ st h => wpAny_pyIter_striter_ascii st h
theorem turn_strW {P : Program} {w : World} {K : PySem.W.Frag} {tg : Expr} (it : Addr) (x : Str) (t : Tok) : Turn P w K tg (Its x) [it] it (fun i h => h.IsStrIter it "str_iterator" x t i) where
  mem := by simp
  obj := fun i h st b hb => by
    have e : b = it := by simpa using hb
    subst e
    obtain ⟨o, e, c, d⟩ := st
    exact ⟨o, e, fun v z => by rw [d] at z; cases z⟩
  keep := fun i h h' st k => by obtain ⟨o, e, r⟩ := st; exact ⟨o, k it (by simp) o e, r⟩
  item := by
    intro X hP hw hK hc i pins s σ H E I hf st hg
    subst hP hw hK
    have hg' : i < x.cps.size := hg
    obtain ⟨f0, f1, f2, f3, f4, f5⟩ := hf it (by simp)
    refine wpAny_pyNext_wide_item st (c := x.cps[i]) (by simp [hg']) fun h' st' sb => ?_
    have I1 : Inv X pins σ H { s with heap := h', toks := s.toks + 1 } := I.turned (fun b o hb e => (sb.2 b hb).trans e) f0 f1 f3 f4 f5
    refine ⟨_, rfl, ?_⟩
    have fin : ∃ y H', Inv X pins σ H' { s with heap := h', toks := s.toks + 1 } ∧ RelV y (.str ⟨#[x.cps[i]]⟩ s.toks) ∧ (Its x).yld i H y H' ∧ h'.IsStrIter it "str_iterator" x t (i + 1) ∧ ∀ b ∈ [it], H' b = none :=
      ⟨.str ⟨#[x.cps[i]]⟩, H, I1, ⟨_, rfl⟩, ⟨rfl, x.cps[i], by simp [hg'], rfl⟩, st', fun b hb => (hf b hb).1⟩
    unfold letOwnedTupleGo
    cases tg <;> exact wpAny_pure fin
  done := by
    intro X hP hw hK hc i pins s σ H E I hf st hg
    subst hP hw hK
    have hg' : x.cps.size ≤ i := hg
    obtain ⟨f0, f1, f2, f3, f4, f5⟩ := hf it (by simp)
    exact wpAny_pyNext_wide_end (I.ok.hd hc) st (by simp [hg']) fun h' eb => ⟨rfl, I.turned (t' := s.toks) (fun b o hb e => eb b o hb e) f0 f1 f3 f4 f5⟩
  self := fun _ _ _ _ _ st h => wpAny_pyIter_striter_wide st h
theorem pi_str {l tg : Expr} {tl : TE} (hl : PE X l tl) : PI X tg l (iStr tl) := by
  intro pins s σ H R I h
  refine thn (hl pins s σ H _ I h) fun v s1 ⟨x, H1, I1, r1, q1⟩ => ?_
  obtain ⟨z, e, q⟩ := q1
  subst e
  obtain ⟨t, rfl⟩ := r1
  have fp : ∀ b ∈ [s1.heap.objs.size], FpOk X pins H1 b := fun b hb => by
    have e : b = s1.heap.objs.size := by simpa using hb
    rw [e]
    exact I1.fpOk (Nat.le_refl _) (I1.hok.fresh (Nat.le_refl _))
  cases ha : z.cps.all (· < 128)
  · exact wpAny_pyIter_wide ha ⟨s1.heap.objs.size, [s1.heap.objs.size], _, Its z, H1, rfl, I1.kept (t' := s1.toks) fun b o e => Heap.get?_push_of_some _ e, turn_strW _ z t, ⟨_, Heap.get?_push_size _ rfl, rfl, rfl⟩, fp, q⟩
  · exact wpAny_pyIter_ascii ha ⟨s1.heap.objs.size, [s1.heap.objs.size], _, Its z, H1, rfl, I1.kept (t' := s1.toks) fun b o e => Heap.get?_push_of_some _ e, turn_strA _ z t, ⟨_, Heap.get?_push_size _ rfl, rfl, rfl⟩, fp, q⟩

def rSlS : V → Option Int → Option Int → Hp → VK → Prop := fun x lo hi H Q => ∃ z, x = .str z ∧ z.length ≤ sizeLine ∧ Q (.str (Txt.slice z lo hi)) H
theorem sl_str : SlR X rSlS := by
  intro pins s σ H x v vl vu lo hi sl Q I rx hs pl pu h
  obtain ⟨z, rfl, hz, q⟩ := h
  obtain ⟨t, rfl⟩ := rx
  refine ⟨"str", _, F.slot_str_getitem.lookup, typeIs_str _ _ _, ?_⟩
  have fin : ∀ t' k, EP X pins σ Q (.str (Txt.slice z lo hi) t') { s with toks := k } := fun t' k => ⟨.str _, H, I.tok _, ⟨_, rfl⟩, q⟩
  obtain ⟨os, e1, e2, e3⟩ := hs
  cases pl with
  | none =>
    cases pu with
    | none => exact wpAny_getItem_str_slice (l := none) (u := none) (st := none) ⟨os, e1, e2, e3⟩ rfl (post_val_or_str ⟨Nat.le_trans (Txt.slice_le z _ _) hz, fin⟩)
    | int j u => exact wpAny_getItem_str_slice (l := none) (u := some (j, u)) (st := none) ⟨os, e1, e2, e3⟩ rfl (post_val_or_str ⟨Nat.le_trans (Txt.slice_le z _ _) hz, fin⟩)
  | int i t2 =>
    cases pu with
    | none => exact wpAny_getItem_str_slice (l := some (i, t2)) (u := none) (st := none) ⟨os, e1, e2, e3⟩ rfl (post_val_or_str ⟨Nat.le_trans (Txt.slice_le z _ _) hz, fin⟩)
    | int j u => exact wpAny_getItem_str_slice (l := some (i, t2)) (u := some (j, u)) (st := none) ⟨os, e1, e2, e3⟩ rfl (post_val_or_str ⟨Nat.le_trans (Txt.slice_le z _ _) hz, fin⟩)
theorem strsAre_of {ys : List Str} : ∀ {us : List Value}, Vals (ys.map V.str) us → StrsAre us ys := by
  induction ys with
  | nil => intro us r; rw [List.map_nil] at r; cases r; exact .nil
  | cons n ns ih =>
    intro us r
    rw [List.map_cons] at r
    cases r with
    | cons r1 r2 =>
      obtain ⟨t, e⟩ := r1
      subst e
      exact .cons n t (ih r2)
theorem mt_join : MtR X "str.join" (fun x xs H Q => ∃ (z : Str) (p : Addr) (ys : List Str), x = .str z ∧ xs = [.ref p] ∧ H p = some (.lst (ys.map V.str)) ∧ (ys.map (·.length)).sum + ys.length * z.length ≤ 16777216 ∧ Q (.str (Txt.join z ys)) H) := by
  intro pins s σ H x xs v us Q I rx rs h
  obtain ⟨z, p, ys, rfl, rfl, hp, hz, q⟩ := h
  obtain ⟨t, rfl⟩ := rx
  obtain ⟨u, rfl, ru⟩ := rs.one
  obtain rfl : u = Value.ref p := ru
  obtain ⟨_, its, n, rv, hl, ho⟩ := I.lstM hp
  refine join_list (items := its.toArray) (ys := ys) ⟨_, ho, rfl, n, rfl⟩ (by simpa using strsAre_of rv) hz fun t' k => ⟨.str _, H, I.tok _, ⟨_, rfl⟩, q⟩
end
end L2
set_option Elab.async false
set_option linter.all false
set_option maxRecDepth 100000
namespace L2
open PySem PySem.Spec PyProof.Rows
inductive D where
  | non | bl (b : Bool) | int (i : Int) | str (x : Str) | tup (ds : List D) | lst (ds : List D)
mutual
def deq : D → D → Bool
  | .non, .non => true
  | .bl a, .bl b => a == b
  | .bl a, .int j => (if a then (1 : Int) else 0) == j
  | .int i, .bl b => i == (if b then (1 : Int) else 0)
  | .int i, .int j => i == j
  | .str x, .str y => x == y
  | .tup a, .tup b => deqs a b
  | .lst a, .lst b => deqs a b
  | _, _ => false
def deqs : List D → List D → Bool
  | [], [] => true
  | x :: xs, y :: ys => deq x y && deqs xs ys
  | _, _ => false
end
mutual
def D.deep : D → Nat
  | .tup ds => D.deeps ds + 1
  | .lst ds => D.deeps ds + 1
  | _ => 0
def D.deeps : List D → Nat
  | [] => 0
  | d :: ds => max d.deep (D.deeps ds)
end
mutual
theorem deq_refl : ∀ d : D, deq d d = true
  | .non => by simp [deq]
  | .bl _ => by simp [deq]
  | .int _ => by simp [deq]
  | .str _ => by simp [deq]
  | .tup ds => by simp [deq, deqs_refl ds]
  | .lst ds => by simp [deq, deqs_refl ds]
theorem deqs_refl : ∀ ds : List D, deqs ds ds = true
  | [] => by simp [deqs]
  | d :: ds => by simp [deqs, deq_refl d, deqs_refl ds]
end
theorem deep_mem : ∀ {ds : List D} {d : D} {j : Nat}, ds[j]? = some d → d.deep ≤ D.deeps ds
  | [], _, _, h => by simp at h
  | d :: ds, e, 0, h => by simp at h; subst h; simp [D.deeps]; omega
  | d :: ds, e, j + 1, h => by
    have := deep_mem (ds := ds) (j := j) (by simpa using h)
    simp [D.deeps]; omega
theorem deqs_range : ∀ {ds ds' : List D}, ((List.range (min ds.length ds'.length)).all (fun j => deq (ds.getD j .non) (ds'.getD j .non)) && (ds.length == ds'.length)) = deqs ds ds'
  | [], [] => by simp [deqs]
  | [], _ :: _ => by simp [deqs]
  | _ :: _, [] => by simp [deqs]
  | d :: ds, d' :: ds' => by
    have ih := deqs_range (ds := ds) (ds' := ds')
    have e : min (d :: ds).length (d' :: ds').length = min ds.length ds'.length + 1 := by simp
    rw [e, List.range_succ_eq_map, List.all_cons, List.all_map]
    simp only [deqs]
    rw [← ih]
    simp [Function.comp_def, Bool.and_assoc]
end L2
set_option Elab.async false
set_option linter.all false
set_option maxRecDepth 100000
namespace L2
open PySem PySem.Spec PyProof.Rows
section
variable {X : Cx} {a b : Expr} {ta tb : TE} {pos : Pos}
def rLtA : R2 := fun x y H Q => rI0 (fun i j => .bl (decide (i < j))) x y H Q ∨ ∃ i j, x = .str i ∧ y = .str j ∧ Q (.bl (decide (i.cps.toList < j.cps.toList))) H
theorem op_ltA : OpR X (compareOp .Lt) rLtA := op_lt.or op_lt_str
def rLeA : R2 := fun x y H Q => rI0 (fun i j => .bl (decide (i ≤ j))) x y H Q ∨ ∃ i j, x = .str i ∧ y = .str j ∧ Q (.bl (!decide (j.cps.toList < i.cps.toList))) H
theorem op_leA : OpR X (compareOp .LtE) rLeA := op_le.or op_le_str
def rGtA : R2 := fun x y H Q => rI0 (fun i j => .bl (decide (j < i))) x y H Q ∨ ∃ i j, x = .str i ∧ y = .str j ∧ Q (.bl (decide (j.cps.toList < i.cps.toList))) H
theorem op_gtA : OpR X (compareOp .Gt) rGtA := op_gt.or op_gt_str
theorem comp_free (X : Cx) (scope : Scope) (h : (scope.names.all fun y => y.2 != .free || (X.env.kindOf y.1 == some .cell || X.env.kindOf y.1 == some .free)) = true) : ∀ y ∈ scope.names, y.2 = .free → X.env.kindOf y.1 = some .cell ∨ X.env.kindOf y.1 = some .free := by
  intro y hy e
  have := List.all_eq_true.mp h y hy
  rw [e] at this
  simpa using this
theorem comp_ix (X : Cx) (N' : List Str) (ix : List (Option Nat)) (scope : Scope) (h : ((List.range ix.length).all fun i => match ix[i]?, N'[i]? with
    | some (some j), some x => decide (X.N[j]? = some x) && decide (scope.names.lookup x = some .free)
    | _, _ => true) = true) : ∀ (i j : Nat) (x : Str), ix[i]? = some (some j) → N'[i]? = some x → X.N[j]? = some x ∧ scope.names.lookup x = some .free := by
  intro i j x h1 h2
  have hi : i < ix.length := (List.getElem?_eq_some_iff.mp h1).1
  have := List.all_eq_true.mp h i (List.mem_range.mpr hi)
  rw [h1, h2] at this
  simpa using this

def instB (t c : String) : Bool := t == c || (t == "bool" && c == "int")
theorem kit_instB (K : PySem.W.Frag) {t c : String} (ht : t = "NoneType" ∨ t = "bool" ∨ t = "int" ∨ t = "str" ∨ t = "list" ∨ t = "tuple" ∨ t = "dict") (hc : c = "str" ∨ c = "int" ∨ c = "bool" ∨ c = "tuple" ∨ c = "list") :
    PySem.W.kitOne K (.type t) (.type c) = some (instB t c) := by
  rcases ht with rfl | rfl | rfl | rfl | rfl | rfl | rfl <;> rcases hc with rfl | rfl | rfl | rfl | rfl <;> rfl
theorem hu150 {A : Around} {k : Nat} (hr : Room k A) : A.units + 150 < cLine := by
  have := hr.un
  omega
def notStar : Expr → Bool
  | .Starred _ _ => false
  | _ => true
theorem star_cons {e : Expr} {es : List Expr} {env : Env} (h : notStar e = true) : starEach (e :: es) env = (false, eval e env) :: starEach es env := by
  cases e <;> first | rfl | cases h
theorem pa_c {e : Expr} {es : List Expr} {te : TE} {t : TA} (ha : PE X e te) (hr : PA X es t) (h : notStar e = true := by rfl) : PA X (e :: es) (tCons te t) := pa_cons ha hr (star_cons h)
end
structure NmOk (sc : Scope) (x : Str) (k : NameKind) : Prop where
  lk : sc.names.lookup x = some k
  db : (x == ("__debug__" : Str)) = false
  cd : (x == ("__classdict__" : Str)) = false
  nn : x ≠ "__name__"
def VisK (k : NameKind) : Bool := match k with | .local => true | .cell => true | .free => true | _ => false
theorem relabel_lookup_glob {env : Env} {x : Str} : ∀ {names : List (Str × NameKind)}, names.lookup x = some .globalImplicit →
    (names.map fun (n, k) => if (k == NameKind.free && env.scope.kind == .function && env.kindOf n == some .cell) = true then (n, NameKind.cell) else (n, k)).lookup x = some .globalImplicit
  | [], h => by cases h
  | (n, k) :: r, h => by
    have ih := @relabel_lookup_glob env x r
    rw [List.map_cons]
    rw [List.lookup_cons] at h
    cases hx : x == n with
    | true =>
      rw [hx] at h
      have hk : k = .globalImplicit := Option.some.inj h
      subst hk
      have hc' : (if (NameKind.globalImplicit == NameKind.free && env.scope.kind == .function && env.kindOf n == some .cell) = true then (n, NameKind.cell) else (n, NameKind.globalImplicit)) = (n, NameKind.globalImplicit) := if_neg (by simp)
      simp only [hc', List.lookup_cons, hx]
    | false =>
      rw [hx] at h
      have q := ih h
      by_cases hc : (k == NameKind.free && env.scope.kind == .function && env.kindOf n == some .cell) = true
      · have hc' : (if (k == NameKind.free && env.scope.kind == .function && env.kindOf n == some .cell) = true then (n, NameKind.cell) else (n, k)) = (n, NameKind.cell) := if_pos hc
        simp only [hc', List.lookup_cons, hx]
        exact q
      · have hc' : (if (k == NameKind.free && env.scope.kind == .function && env.kindOf n == some .cell) = true then (n, NameKind.cell) else (n, k)) = (n, k) := if_neg hc
        simp only [hc', List.lookup_cons, hx]
        exact q
section
variable {X : Cx} {x : Str} {p pos : Pos} {e : Expr} {es : List Expr} {t : TA} {k : NameKind}
theorem pvk (i : Nat) (q : NmOk X.env.scope x k) (hN : X.N[i]? = some x := by rfl) (hk : VisK k = true := by rfl) : PE X (.Name x pos) (tVar i) :=
  pe_var hN (by cases k <;> first | exact .inl q.lk | exact .inr (.inl q.lk) | exact .inr (.inr q.lk) | exact absurd hk (by decide)) q.db q.cd
theorem NmOk.own {scope : Scope} {cl : List (Str × Addr)} {C : Addr} {s₀ : Shared} {H₀ : Hp} {fp : List Addr} {N' : List Str} (q : NmOk scope x .local) : NmOk (X.comp scope cl C s₀ H₀ fp N').env.scope x .local :=
  ⟨lookup_relabel_local q.lk, q.db, q.cd, q.nn⟩
theorem NmOk.glob {scope : Scope} {cl : List (Str × Addr)} {C : Addr} {s₀ : Shared} {H₀ : Hp} {fp : List Addr} {N' : List Str} (q : NmOk scope x .globalImplicit) : NmOk (X.comp scope cl C s₀ H₀ fp N').env.scope x .globalImplicit :=
  ⟨relabel_lookup_glob q.lk, q.db, q.cd, q.nn⟩
theorem pvf (i : Nat) {scope : Scope} {cl : List (Str × Addr)} {C : Addr} {s₀ : Shared} {H₀ : Hp} {fp : List Addr} {N' : List Str} (q : NmOk scope x .free) (hN : N'[i]? = some x := by rfl) : PE (X.comp scope cl C s₀ H₀ fp N') (.Name x pos) (tVar i) :=
  pe_var (X := X.comp scope cl C s₀ H₀ fp N') hN (by
    rcases relabel_lookup_free (env := X.env) q.lk with h | h
    · exact .inr (.inl h)
    · exact .inr (.inr h)) q.db q.cd
theorem pgo {i : Nat} {scope : Scope} {cl : List (Str × Addr)} {C : Addr} {s₀ : Shared} {H₀ : Hp} {fp : List Addr} {N' : List Str} (q : NmOk scope x .local) (hd : N'.Nodup) (hN : N'[i]? = some x := by rfl) : PG (X.comp scope cl C s₀ H₀ fp N') (.Name x pos) (gName i) :=
  pg_name (X := X.comp scope cl C s₀ H₀ fp N') hd hN (.inl (lookup_relabel_local q.lk)) (.inr (lookup_relabel_local q.lk))
section
variable {CX : CXT} {n : Nat} {f : Addr} {fd : FuncData} {ps : List Str} {sp : Sp} {dvs : List V} {ds : List Value} {E : XK} {id T : String} {r : List V → Hp → VK → Prop}
theorem pe_callk (F : FnOk X.prog X.w X.K X.mg X.base CX n f fd ps sp) (hr : Room n X.A) (q : NmOk X.env.scope x .globalImplicit) (hm : X.mg x = some (.ref f)) (hk : PySem.W.keepIn X.K (.ref f) = true) (hb : Binds X.K fd ps ds) (hd : Vals dvs ds) (hx : Passes CX X E)
    (ha : PA X (e :: es) t) (he : notStar e = true := by rfl) (hpl : (backTo pos (starEach es X.env)).any (·.1) = false := by rfl) :
    PE X (.Call (.Name x p) (e :: es) [] pos) (tCall sp dvs E t) := pe_call F hr q.lk hm hk hb hd hx ha q.db (star_cons he) hpl
theorem pe_callBk (hc : CallR X (.builtin id) r) (q : NmOk X.env.scope x .globalImplicit) (hm : X.mg x = none) (hv : bootBuiltins x = some (.builtin id)) (ha : PA X (e :: es) t)
    (he : notStar e = true := by rfl) (hpl : (backTo pos (starEach es X.env)).any (·.1) = false := by rfl) : PE X (.Call (.Name x p) (e :: es) [] pos) (tCB r t) := pe_callB hc q.lk hm hv ha q.nn q.db (star_cons he) hpl
theorem pe_callTyk (hc : CallR X (.type T) r) (q : NmOk X.env.scope x .globalImplicit) (hm : X.mg x = none) (hv : bootBuiltins x = some (.type T)) (ha : PA X (e :: es) t)
    (he : notStar e = true := by rfl) (hpl : (backTo pos (starEach es X.env)).any (·.1) = false := by rfl) : PE X (.Call (.Name x p) (e :: es) [] pos) (tCB r t) := pe_callTy hc q.lk hm hv ha q.nn q.db (star_cons he) hpl
theorem pe_bltnk {v : V} {u : Value} (q : NmOk X.env.scope x .globalImplicit) (hm : X.mg x = none) (hv : bootBuiltins x = some u) (r : RelV v u) : PE X (.Name x pos) (tC v) := pe_bltn q.lk hm hv r q.nn q.db
theorem pe_globk {v : V} {u : Value} (q : NmOk X.env.scope x .globalImplicit) (hm : X.mg x = some u) (r : RelV v u) : PE X (.Name x pos) (tC v) := pe_glob q.lk hm r q.db
end
end
def notComp : Expr → Bool
  | .ListComp _ _ _ _ => false
  | .SetComp _ _ _ _ => false
  | .DictComp _ _ _ _ _ => false
  | _ => true
theorem swaps_no {value : Expr} {tgt : Option Expr} {l : Nat} {env : Env} (h : notComp value = true) : swapsWith value tgt l env = pure false := by
  cases value <;> first | rfl | cases h
section
variable {X : Cx}
theorem ps_setk {i : Nat} {x : Str} {e : Expr} {te : TE} {pos pos' : Pos} (hN : X.N.Nodup) (hi : X.N[i]? = some x) (hx : Loc X.env.scope x) (he : PE X e te) (hs : notComp e = true := by rfl) (hf : X.fn x = true := by rfl) :
    PS X (.Assign [.Name x pos'] e pos) (tAsg te (gName i)) := ps_set hN hi hx he (swaps_no hs) (.inl hf)
end
end L2
set_option Elab.async false
set_option linter.all false
set_option maxRecDepth 100000
namespace L2
open PySem PySem.Spec PyProof.Rows
section
variable {D : Ends} {σ : St} {H : Hp} {Q : VK} {B : Bool → Hp → Prop} {te ta tb tc : TE} {t u : TS} {g : TG} {tt uu : TT} {tr : TA} {r r' : R2} {K : PySem.W.Frag}
def Kept0 (ix : List (Option Nat)) (σ τ : St) : Prop := τ.length = ix.length ∧ ∀ (k : Nat) v, (tau ix σ)[k]? = some (some v) → τ[k]? = some (some v)
variable {ix : List (Option Nat)}
end
theorem upd_new {H : Hp} {b p : Addr} {o u : HO} (e : H b = some u) (hp : H p = none) : upd H p o b = some u := by rw [upd_ne (ne_of_none e hp)]; exact e
theorem same_new {H : Hp} {p : Addr} (h : H p = none) (o : HO) : Same H (upd H p o) := fun b u q => by rw [upd_ne (ne_of_none q h)]; exact q
end L2
namespace L2
open PySem PySem.Spec PyProof.Rows
section
variable {κ : Type} [DecidableEq κ]
def valV (kvs : List (κ × V)) (k : κ) : Option V := (kvs.find? fun kv => decide (kv.1 = k)).map (·.2)
def putK (kvs : List (κ × V)) (k : κ) (v : V) : List (κ × V) :=
  if (kvs.any fun kv => decide (kv.1 = k)) = true then kvs.map (fun kv => if kv.1 = k then (kv.1, v) else kv) else kvs ++ [(k, v)]
theorem valV_pos {p : κ × V} {r : List (κ × V)} {k : κ} (e : p.1 = k) : valV (p :: r) k = some p.2 := by simp [valV, List.find?_cons, e]
theorem valV_neg {p : κ × V} {r : List (κ × V)} {k : κ} (e : ¬ p.1 = k) : valV (p :: r) k = valV r k := by simp [valV, List.find?_cons, e]
theorem valV_any (k : κ) : ∀ kvs : List (κ × V), (kvs.any fun kv => decide (kv.1 = k)) = (valV kvs k).isSome
  | [] => rfl
  | p :: r => by
    rw [List.any_cons]
    by_cases e : p.1 = k
    · simp only [valV_pos e, decide_eq_true e, Bool.true_or, Option.isSome_some]
    · rw [valV_neg e, decide_eq_false e, Bool.false_or]; exact valV_any k r
theorem length_putK (kvs : List (κ × V)) (k : κ) (v : V) : (putK kvs k v).length ≤ kvs.length + 1 := by
  unfold putK
  split
  · rw [List.length_map]; omega
  · rw [List.length_append, List.length_cons, List.length_nil]; omega
theorem RelO.isSome_eq {o : Option V} {u : Option Value} (r : RelO o u) : o.isSome = u.isSome := by
  cases o with
  | none => cases u with
    | none => rfl
    | some _ => exact (show False from r).elim
  | some _ => cases u with
    | none => exact (show False from r).elim
    | some _ => rfl
theorem RelO.getD {o : Option V} {u : Option Value} {d : V} {d' : Value} (r : RelO o u) (rd : RelV d d') : RelV (o.getD d) (u.getD d') := by
  cases o with
  | none => cases u with
    | none => exact rd
    | some _ => exact (show False from r).elim
  | some _ => cases u with
    | none => exact (show False from r).elim
    | some _ => exact r

theorem KV.val {kvs : List (κ × V)} {vs : List (κ × Value)} (r : KV kvs vs) (k : κ) : RelO (valV kvs k) (valueAt vs k) := by
  unfold KV at r
  induction r with
  | nil => exact True.intro
  | @cons p q ps qs h t ih =>
    obtain ⟨h1, h2⟩ := h
    by_cases e : p.1 = k
    · have e' : q.1 = k := h1.symm.trans e
      have b : valueAt (q :: qs) k = some q.2 := by simp [valueAt, List.find?_cons, e']
      rw [valV_pos e, b]; exact h2
    · have e' : ¬ q.1 = k := fun z => e (h1.trans z)
      have b : valueAt (q :: qs) k = valueAt qs k := by simp [valueAt, List.find?_cons, e']
      rw [valV_neg e, b]; exact ih
theorem KV.any {kvs : List (κ × V)} {vs : List (κ × Value)} (r : KV kvs vs) (k : κ) : (kvs.any fun kv => decide (kv.1 = k)) = vs.any fun kv => decide (kv.1 = k) := by
  unfold KV at r
  induction r with
  | nil => rfl
  | cons h t ih => rw [List.any_cons, List.any_cons, ih, h.1]
theorem KV.repl {kvs : List (κ × V)} {vs : List (κ × Value)} (r : KV kvs vs) (k : κ) {y : V} {u : Value} (ry : RelV y u) :
    KV (kvs.map fun kv => if kv.1 = k then (kv.1, y) else kv) (vs.map fun kv => if kv.1 = k then (kv.1, u) else kv) := by
  unfold KV at r ⊢
  induction r with
  | nil => exact .nil
  | @cons p q ps qs h t ih =>
    rw [List.map_cons, List.map_cons]
    refine .cons ?_ ih
    obtain ⟨h1, h2⟩ := h
    by_cases e : p.1 = k
    · rw [if_pos e, if_pos (h1.symm.trans e)]; exact ⟨h1, ry⟩
    · rw [if_neg e, if_neg (fun z => e (h1.trans z))]; exact ⟨h1, h2⟩
theorem KV.put {kvs : List (κ × V)} {vs : List (κ × Value)} (r : KV kvs vs) (k : κ) {y : V} {u : Value} (ry : RelV y u) : KV (putK kvs k y) (stored vs k u) := by
  unfold putK stored
  rw [r.any k]
  by_cases e : (vs.any fun kv => decide (kv.1 = k)) = true
  · rw [if_pos e, if_pos e]; exact r.repl k ry
  · rw [if_neg e, if_neg e]; exact Paired.snoc r ⟨rfl, ry⟩
theorem KV.keys {kvs : List (κ × V)} {vs : List (κ × Value)} (r : KV kvs vs) : kvs.map (·.1) = vs.map (·.1) := by
  unfold KV at r
  induction r with
  | nil => rfl
  | cons h t ih => rw [List.map_cons, List.map_cons, ih, h.1]
theorem KV.length {kvs : List (κ × V)} {vs : List (κ × Value)} (r : KV kvs vs) : kvs.length = vs.length := Paired.length r
end
theorem kV_is {P : Program} {w : World} {k : Key} {u : Value} (r : RelV (kV k) u) : (mixKind P w).is k u = true := by
  cases k with
  | inl i => obtain ⟨t, e⟩ := (show ∃ t, u = Value.int i t from r); subst e; exact mixKind_int P w i t
  | inr x => obtain ⟨t, e⟩ := (show ∃ t, u = Value.str x t from r); subst e; exact mixKind_str P w x t
theorem items_are {P : Program} {w : World} : ∀ {ks : List Key} {us : List Value}, Vals (ks.map kV) us → ItemsAre (mixKind P w) ks us
  | [], _, r => by rw [List.map_nil] at r; cases r; exact .nil
  | k :: ks, _, r => by
    rw [List.map_cons] at r
    cases r with
    | cons h t => exact .cons (kV_is h) (items_are t)

abbrev KT (H : Hp) : List (List Key × V) → List (List Key × Addr × Value) → Prop := Paired fun p q => p.1 = q.1 ∧ H q.2.1 = some (.tup (p.1.map kV)) ∧ RelV p.2 q.2.2
theorem KT.val {H : Hp} {kvs : List (List Key × V)} {xs : List (List Key × Addr × Value)} (r : KT H kvs xs) (k : List Key) : RelO (valV kvs k) ((atKey xs k).map (·.2)) := by
  induction r with
  | nil => exact True.intro
  | @cons p q ps qs h t ih =>
    obtain ⟨h1, _, h2⟩ := h
    by_cases e : p.1 = k
    · have e' : q.1 = k := h1.symm.trans e
      have b : atKey (q :: qs) k = some q.2 := by simp [atKey, List.find?_cons, e']
      rw [valV_pos e, b]; exact h2
    · have e' : ¬ q.1 = k := fun z => e (h1.trans z)
      have b : atKey (q :: qs) k = atKey qs k := by simp [atKey, List.find?_cons, e']
      rw [valV_neg e, b]; exact ih
theorem KT.repl {H : Hp} {kvs : List (List Key × V)} {xs : List (List Key × Addr × Value)} (r : KT H kvs xs) (k : List Key) {y : V} {u : Value} (ry : RelV y u) :
    KT H (kvs.map fun kv => if kv.1 = k then (kv.1, y) else kv) (xs.map (putAt k u)) := by
  induction r with
  | nil => exact .nil
  | @cons p q ps qs h t ih =>
    rw [List.map_cons, List.map_cons]
    refine .cons ?_ ih
    obtain ⟨h1, h2, h3⟩ := h
    unfold putAt
    by_cases e : p.1 = k
    · rw [if_pos e, if_pos (h1.symm.trans e)]; exact ⟨h1, h2, ry⟩
    · rw [if_neg e, if_neg (fun z => e (h1.trans z))]; exact ⟨h1, h2, h3⟩
theorem KT.put {H : Hp} {kvs : List (List Key × V)} {xs : List (List Key × Addr × Value)} (r : KT H kvs xs) (k : List Key) {b : Addr} {y : V} {u : Value} (hb : H b = some (.tup (k.map kV))) (ry : RelV y u) :
    KT H (putK kvs k y) (storedH xs k b u) := by
  have e : (kvs.any fun kv => decide (kv.1 = k)) = (atKey xs k).isSome := by
    rw [valV_any, (r.val k).isSome_eq, Option.isSome_map]
  unfold putK storedH
  rw [e]
  by_cases q : (atKey xs k).isSome = true
  · rw [if_pos q, if_pos q]; exact r.repl k ry
  · rw [if_neg q, if_neg q]; exact Paired.snoc r ⟨rfl, hb, ry⟩
theorem KT.keeps {H H' : Hp} {kvs : List (List Key × V)} {xs : List (List Key × Addr × Value)} (r : KT H kvs xs) (ht : ∀ b ys, H b = some (.tup ys) → H' b = some (.tup ys)) : KT H' kvs xs :=
  Paired.mapP r fun _ _ z => ⟨z.1, ht _ _ z.2.1, z.2.2⟩

section
variable {P : Program} {w : World} {H : Hp} {h : Heap} {a : Addr}
theorem rd_of {u : HO} (ok : HOk P w H h) (e : Rd H a u) : ObjOk P w H h a u := e.ok ok
theorem dk_rd {kvs : List (Key × V)} (ok : HOk P w H h) (e : Rd H a (.dK kvs)) : kvs.length ≤ sizeLine ∧ (a == sysModules) = false ∧ ∃ vs, KV kvs vs ∧ h.DictOf (mixKind P w) a vs :=
  show ObjOk P w H h a (.dK kvs) from rd_of ok e
theorem dk_of {kvs : List (Key × V)} (ok : HOk P w H h) (e : H a = some (.dK kvs)) : kvs.length ≤ sizeLine ∧ (a == sysModules) = false ∧ ∃ vs, KV kvs vs ∧ h.DictOf (mixKind P w) a vs := dk_rd ok (.inl e)
theorem key_of {ks : List Key} (ok : HOk P w H h) (e : H a = some (.tup (ks.map kV))) : (tupleKind (mixKind P w)).is h ks a := by
  obtain ⟨_, its, r, o, h1, h2, n, h3⟩ := (show ObjOk P w H h a (.tup (ks.map kV)) from ok a _ e)
  exact ⟨o, its.toArray, n, h1, h2.1, h3, by simpa using items_are r⟩
theorem dt_rd {kvs : List (List Key × V)} (ok : HOk P w H h) (e : Rd H a (.dT kvs)) : kvs.length ≤ sizeLine ∧ (a == sysModules) = false ∧
    ∃ xs, KT H kvs xs ∧ h.DictOfH (tupleKind (mixKind P w)) a xs := by
  obtain ⟨z, y, xs, r, o, es, ep, h1, h2, h3, h4, h5⟩ := (show ObjOk P w H h a (.dT kvs) from rd_of ok e)
  refine ⟨z, y, xs, r, o, es, ep, h1, h2, h3, h4, fun x hx => ?_, h5⟩
  have all : ∀ {l : List (List Key × V)} {m : List (List Key × Addr × Value)}, KT H l m → ∀ x ∈ m, (tupleKind (mixKind P w)).is h x.1 x.2.1 := by
    intro l m q
    induction q with
    | nil => intro x hx; exact nomatch hx
    | @cons p q ps qs hq t ih =>
      intro x hx
      rcases List.mem_cons.mp hx with e | hx
      · subst e
        exact key_of ok (by rw [← hq.1]; exact hq.2.1)
      · exact ih x hx
  exact all r x hx
theorem dt_of {kvs : List (List Key × V)} (ok : HOk P w H h) (e : H a = some (.dT kvs)) : kvs.length ≤ sizeLine ∧ (a == sysModules) = false ∧
    ∃ xs, KT H kvs xs ∧ h.DictOfH (tupleKind (mixKind P w)) a xs := dt_rd ok (.inl e)
end
def DGet (H : Hp) (a : Addr) (y : V) (r : Option V) : Prop :=
  (∃ kvs k, Rd H a (.dK kvs) ∧ y = kV k ∧ r = valV kvs k) ∨ ∃ kvs k b, Rd H a (.dT kvs) ∧ y = .ref b ∧ H b = some (.tup (k.map kV)) ∧ r = valV kvs k
def DPut (H : Hp) (a : Addr) (y v : V) (H' : Hp) : Prop :=
  (∃ kvs k, H a = some (.dK kvs) ∧ y = kV k ∧ kvs.length < sizeLine ∧ H' = upd H a (.dK (putK kvs k v))) ∨
  ∃ kvs k b, H a = some (.dT kvs) ∧ y = .ref b ∧ H b = some (.tup (k.map kV)) ∧ kvs.length < sizeLine ∧ H' = upd H a (.dT (putK kvs k v))
theorem DPut.k {H : Hp} {a : Addr} {kvs : List (Key × V)} {k : Key} {v : V} (e : H a = some (.dK kvs)) (hl : kvs.length < sizeLine) : DPut H a (kV k) v (upd H a (.dK (putK kvs k v))) := .inl ⟨kvs, k, e, rfl, hl, rfl⟩
section
variable {X : Cx} {pins : List (Addr × Obj)} {σ : St} {H : Hp} {s : Shared} {a : Addr} {y v : V} {u r : Value} {o : Option V} {A : Around} {E : Value → Shared → Prop}
theorem Inv.big (I : Inv X pins σ H s) : sysModules < s.heap.objs.size := by
  have h : mainGlobals < s.heap.objs.size := (I.mod.glob.keeps I.bk).lt
  exact Nat.lt_trans (by decide) h

theorem d_getItem {Q : Value → Shared → Prop} (hu : A.units + 1 < cLine) (I : Inv X pins σ H s) (g : DGet H a y (some v)) (ry : RelV y u) (h : ∀ w' s', Inv X pins σ H s' → RelV v w' → Q w' s') :
    wpAny (model X.prog X.w) A (getItem (.ref a) u) Q E s := by
  rcases g with ⟨kvs, k, e, ey, l⟩ | ⟨kvs, k, b, e, ey, eb, l⟩
  · subst ey
    obtain ⟨z, hd, vs, rel, dd⟩ := dk_rd I.hok e
    obtain ⟨w', hw, rw'⟩ := RelO.some_of (v := v) (o := valueAt vs k) (by rw [l]; exact rel.val k)
    exact wpAny_getItem_of (kV_is ry) dd.mapOf hw (h w' _ (I.tok _) rw')
  · subst ey
    cases (show u = Value.ref b from ry)
    obtain ⟨z, hd, xs, rel, dd⟩ := dt_rd I.hok e
    obtain ⟨w', hw, rw'⟩ := RelO.some_of (v := v) (o := (atKey xs k).map (·.2)) (by rw [l]; exact rel.val k)
    obtain ⟨p, hp, hp2⟩ := Option.map_eq_some_iff.mp hw
    refine wpAny_getItem_heap (tupleKind_room_in1 hu) (key_of I.hok eb) dd hp ?_
    rw [hp2]
    exact h w' _ (I.tok _) rw'
theorem d_in {Q : Value → Shared → Prop} (hu : A.units + 1 < cLine) (I : Inv X pins σ H s) (g : DGet H a y o) (ry : RelV y u) (h : ∀ s', Inv X pins σ H s' → Q (.bool o.isSome) s') :
    wpAny (model X.prog X.w) A (compareOp .In u (.ref a)) Q E s := by
  rcases g with ⟨kvs, k, e, ey, l⟩ | ⟨kvs, k, b, e, ey, eb, l⟩
  · subst ey
    obtain ⟨z, hd, vs, rel, dd⟩ := dk_rd I.hok e
    refine wpAny_in_of (kV_is ry) hd dd.mapOf ?_
    rw [← (rel.val k).isSome_eq, ← l]
    exact h _ (I.tok _)
  · subst ey
    cases (show u = Value.ref b from ry)
    obtain ⟨z, hd, xs, rel, dd⟩ := dt_rd I.hok e
    refine wpAny_in_heap (tupleKind_room_in1 hu) (key_of I.hok eb) hd dd ?_
    have q := (rel.val k).isSome_eq
    rw [Option.isSome_map] at q
    rw [← q, ← l]
    exact h _ (I.tok _)
theorem d_notIn {Q : Value → Shared → Prop} (hu : A.units + 1 < cLine) (I : Inv X pins σ H s) (g : DGet H a y o) (ry : RelV y u) (h : ∀ s', Inv X pins σ H s' → Q (.bool (!o.isSome)) s') :
    wpAny (model X.prog X.w) A (compareOp .NotIn u (.ref a)) Q E s := by
  rcases g with ⟨kvs, k, e, ey, l⟩ | ⟨kvs, k, b, e, ey, eb, l⟩
  · subst ey
    obtain ⟨z, hd, vs, rel, dd⟩ := dk_rd I.hok e
    refine wpAny_notIn_of (kV_is ry) hd dd.mapOf ?_
    rw [← (rel.val k).isSome_eq, ← l]
    exact h _ (I.tok _)
  · subst ey
    cases (show u = Value.ref b from ry)
    obtain ⟨z, hd, xs, rel, dd⟩ := dt_rd I.hok e
    refine wpAny_notIn_heap (tupleKind_room_in1 hu) (key_of I.hok eb) hd dd ?_
    have q := (rel.val k).isSome_eq
    rw [Option.isSome_map] at q
    rw [← q, ← l]
    exact h _ (I.tok _)
theorem d_write {h' : Heap} {t' : Nat} {ob : HO} (I : Inv X pins σ H s) (mu : Mut (H a)) (hs : Heap.SameBut a s.heap h') (he : ∃ q, h'.get? a = some q) (new : ObjOk X.prog X.w (upd H a ob) h' a ob) :
    Inv X pins σ (upd H a ob) { s with heap := h', toks := t' } :=
  I.write (x := a) (e := a) mu (.inl rfl) (fun b q hb z => (hs.2 b hb).trans z) he new
theorem dk_new {P : Program} {w : World} {H' : Hp} {h' : Heap} {kvs : List (Key × V)} {vs : List (Key × Value)} (z : kvs.length ≤ sizeLine) (hd : (a == sysModules) = false) (rel : KV kvs vs) (dd : h'.DictOf (mixKind P w) a vs) :
    ObjOk P w H' h' a (.dK kvs) := ⟨z, hd, vs, rel, dd⟩
theorem d_setItem {H' : Hp} {Q : Unit → Shared → Prop} (hu : A.units + 1 < cLine) (I : Inv X pins σ H s) (g : DPut H a y v H') (ry : RelV y u) (rv : RelV v r) (h : ∀ s', Inv X pins σ H' s' → Q () s') :
    wpAny (model X.prog X.w) A (setItem (.ref a) u r) Q E s := by
  rcases g with ⟨kvs, k, e, ey, l, eH⟩ | ⟨kvs, k, b, e, ey, eb, l, eH⟩
  · subst ey eH
    obtain ⟨z, hd, vs, rel, dd⟩ := dk_of I.hok e
    have hz : vs.length ≤ sizeLine := by rw [← rel.length]; exact z
    have hl : (putK kvs k v).length ≤ sizeLine := by have := length_putK kvs k v; omega
    refine wpAny_setItem_pairs (hsz := hz) (kV_is ry) dd fun h' dd' hs => h _ ?_
    have he : ∃ q, h'.get? a = some q := let ⟨q, _, _, hq, _⟩ := dd'; ⟨q, hq⟩
    exact d_write I (by rw [e]; exact True.intro) hs he (dk_new hl hd (rel.put k rv) dd')
  · subst ey eH
    cases (show u = Value.ref b from ry)
    obtain ⟨z, hd, xs, rel, dd⟩ := dt_of I.hok e
    have hz : xs.length ≤ sizeLine := by rw [← Paired.length rel]; exact z
    have hl : (putK kvs k v).length ≤ sizeLine := by have := length_putK kvs k v; omega
    refine wpAny_setItem_heap (hsz := hz) (tupleKind_room_in1 hu) (key_of I.hok eb) dd fun h' dd' hs => h _ ?_
    obtain ⟨q, es, ep, hq, h2, h3, h4, _, h5⟩ := dd'
    refine d_write I (by rw [e]; exact True.intro) hs ⟨q, hq⟩ ⟨hl, hd, _, (rel.put k eb rv).keeps fun c ys ec => ?_, q, es, ep, hq, h2, h3, h4, h5⟩
    rw [upd_ne (ne_of ec e (fun z => nomatch z))]
    exact ec
end
section
variable {X : Cx} {pins : List (Addr × Obj)} {σ : St} {H : Hp} {s : Shared} {a : Addr} {kvs : List (Key × V)} {k : Key} {u : Value} {A : Around} {E : Value → Shared → Prop}
theorem d_len {Q : Value → Shared → Prop} (I : Inv X pins σ H s) (e : Rd H a (.dK kvs)) (h : ∀ t s', Inv X pins σ H s' → Q (.int kvs.length t) s') : wpAny (model X.prog X.w) A (call (.builtin "len") [.ref a]) Q E s := by
  obtain ⟨z, hd, vs, rel, dd⟩ := dk_rd I.hok e
  refine call_len_dict hd dd (by rw [← rel.length]; rw [sizeLine_eq] at z; omega) ?_
  rw [← rel.length]
  exact h _ _ (I.tok _)
end
theorem dict_typeIs {X : Cx} {pins : List (Addr × Obj)} {σ : St} {H : Hp} {s : Shared} {a : Addr} {y : V} {o : Option V} (I : Inv X pins σ H s) (g : DGet H a y o) : s.TypeIs (.ref a) "dict" := by
  rcases g with ⟨kvs, k, e, _, _⟩ | ⟨kvs, k, b, e, _, _, _⟩
  · obtain ⟨_, _, vs, _, dd⟩ := dk_rd I.hok e
    exact dd.typeIs
  · obtain ⟨_, _, xs, _, dd⟩ := dt_rd I.hok e
    exact dd.typeIs
def sDPut (td ty tv : TE) : TS := fun D σ H => tv σ H fun v H1 => td σ H1 fun x H2 => ty σ H2 fun y H3 => ∃ a H4, x = .ref a ∧ DPut H3 a y v H4 ∧ D.nx σ H4
section
variable {X : Cx} {o i e value : Expr} {pos pos' tpos : Pos} {td ty tv : TE}
theorem ps_dput (hu : X.A.units + 1 < cLine) (ho : PE X o td) (hi : PE X i ty) (hv : PE X value tv) (hs : swapsWith value (some (.Subscript o i pos')) pos.line X.env = pure false) :
    PS X (.Assign [.Subscript o i pos'] value pos) (sDPut td ty tv) := by
  intro pins s σ H D I h
  refine wpAny_Assign_Subscript (thn (hv pins s σ H _ I h) fun r s1 ⟨v, H1, I1, rv, q1⟩ => thn (ho pins s1 σ H1 _ I1 q1) fun u s2 ⟨x, H2, I2, rx, q2⟩ => thn (hi pins s2 σ H2 _ I2 q2) fun iv s3 ⟨y, H3, I3, ry, a, H4, ex, g, q3⟩ => ?_) hs
  subst ex
  obtain rfl : u = Value.ref a := rx
  exact d_setItem hu I3 g ry rv fun s4 I4 => ⟨σ, H4, I4, q3⟩
end
theorem dk_empty {P : Program} {w : World} {H : Hp} (h : Heap) (hb : sysModules < h.objs.size) : ObjOk P w H (h.push { cls := .type "dict", data := .dict #[] }) h.objs.size (.dK []) :=
  ⟨Nat.zero_le _, beq_eq_false_iff_ne.mpr (Ne.symm (Nat.ne_of_lt hb)), [], .nil, Heap.DictOf.new h⟩
def tDNewK : TE := fun _ H Q => ∀ p, H p = none → Q (.ref p) (upd H p (.dK []))
section
variable {X : Cx} {pos : Pos}
theorem pe_dnewK : PE X (.Dict [] [] pos) tDNewK := fun pins s σ H Q I h =>
  wpAny_Dict_empty ⟨.ref s.heap.objs.size, _, I.laid (a := s.heap.objs.size) (o := .dK []) (t' := s.toks) (fun _ _ q => Heap.get?_push_of_some _ q) (Nat.le_refl _) (dk_empty s.heap I.big), rfl, h _ (I.hok.fresh (Nat.le_refl _))⟩
end
def mergeK (kvs more : List (Key × V)) : List (Key × V) := more.foldl (fun acc kv => putK acc kv.1 kv.2) kvs
theorem KV.merge : ∀ {more : List (Key × V)} {rs : List (Key × Value)} {kvs : List (Key × V)} {vs : List (Key × Value)}, KV more rs → KV kvs vs → KV (mergeK kvs more) (merged vs rs) := by
  intro more rs kvs vs r
  unfold KV at r
  induction r generalizing kvs vs with
  | nil => intro q; exact q
  | @cons p q ps qs h t ih =>
    intro r0
    have e : KV (putK kvs p.1 p.2) (stored vs q.1 q.2) := by
      have := r0.put p.1 h.2
      rw [← h.1]; exact this
    exact ih e
theorem length_mergeK : ∀ (more kvs : List (Key × V)), (mergeK kvs more).length ≤ kvs.length + more.length
  | [], kvs => by show kvs.length ≤ kvs.length + 0; omega
  | p :: r, kvs => by
    have h1 := length_mergeK r (putK kvs p.1 p.2)
    have h2 := length_putK kvs p.1 p.2
    show (mergeK (putK kvs p.1 p.2) r).length ≤ _
    rw [List.length_cons]; omega
section
variable {X : Cx} {pins : List (Addr × Obj)} {σ : St} {H : Hp} {s : Shared} {a : Addr} {y d : V} {u r : Value} {o : Option V} {A : Around} {E : Value → Shared → Prop}
theorem d_get2 {Q : Value → Shared → Prop} (hu : A.units + 1 < cLine) (I : Inv X pins σ H s) (g : DGet H a y o) (ry : RelV y u) (rd : RelV d r) (h : ∀ w' s', Inv X pins σ H s' → RelV (o.getD d) w' → Q w' s') :
    wpAny (model X.prog X.w) A (call (.builtin "dict.get") [.ref a, u, r]) Q E s := by
  rcases g with ⟨kvs, k, e, ey, l⟩ | ⟨kvs, k, b, e, ey, eb, l⟩
  · subst ey
    obtain ⟨z, hd, vs, rel, dd⟩ := dk_rd I.hok e
    refine call_meetsIn PySem.F.slot_dict_get dd.typeIs PySem.F.entry_dict_get (PySem.F.args_dict_get_3 _ _ _) (meets_dict_get_default (mixKind X.prog X.w) a (kV_is ry) hd r) ⟨_, dd.mapOf, h _ _ (I.tok _) ?_⟩
    rw [l]
    exact (rel.val k).getD rd
  · subst ey
    cases (show u = Value.ref b from ry)
    obtain ⟨z, hd, xs, rel, dd⟩ := dt_rd I.hok e
    refine call_meetsIn PySem.F.slot_dict_get dd.typeIs PySem.F.entry_dict_get (PySem.F.args_dict_get_3 _ _ _) (meetsH_dict_get_default (tupleKind (mixKind X.prog X.w)) a b hd r) ⟨tupleKind_room_in1 hu, k, xs, key_of I.hok eb, dd, h _ _ (I.tok _) ?_⟩
    rw [l]
    exact (rel.val k).getD rd
end
section
variable {X : Cx} {pins : List (Addr × Obj)} {σ : St} {H : Hp} {s : Shared} {a : Addr} {kvs : List (Key × V)} {A : Around} {E : Value → Shared → Prop}
theorem d_copyOf {Q : Value → Shared → Prop} (I : Inv X pins σ H s) (e : Rd H a (.dK kvs)) (h : ∀ p s', H p = none → Inv X pins σ (upd H p (.dK kvs)) s' → Q (.ref p) s') : wpAny (model X.prog X.w) A (call (.type "dict") [.ref a]) Q E s := by
  obtain ⟨z, hd, vs, rel, dd⟩ := dk_rd I.hok e
  refine kt_call_dict hd dd (by rw [← rel.length]; exact z) fun h' dd' hs => ?_
  refine h _ _ (I.hok.fresh (Nat.le_refl _)) (I.laid (a := s.heap.objs.size) (o := .dK kvs) (t' := s.toks) (fun b q hq => ?_) (Nat.le_refl _) (dk_new z (beq_eq_false_iff_ne.mpr (Ne.symm (Nat.ne_of_lt I.big))) rel dd'))
  exact (hs.2 b (Nat.ne_of_lt (Heap.lt_size hq))).trans (Heap.get?_push_of_some _ hq)
end
end L2
set_option Elab.async false
set_option linter.all false
set_option maxRecDepth 100000
namespace L2
open PySem PySem.Spec PyProof.Rows
section
open PySem.SeqAt
variable {X : Cx} {pins : List (Addr × Obj)} {σ : St} {H : Hp} {s : Shared}
theorem kitAny_of (K : PySem.W.Frag) {t : String} (ht : t = "NoneType" ∨ t = "bool" ∨ t = "int" ∨ t = "str" ∨ t = "list" ∨ t = "tuple" ∨ t = "dict") : ∀ {cs : List String}, (∀ c ∈ cs, c = "str" ∨ c = "int" ∨ c = "bool" ∨ c = "tuple" ∨ c = "list") →
    PySem.W.kitAny K (.type t) (cs.map Value.type) = some (cs.any (instB t))
  | [], _ => rfl
  | c :: r, h => by
    have e := kit_instB K ht (h c List.mem_cons_self)
    have ih := kitAny_of K ht (cs := r) fun c' hc => h c' (List.mem_cons_of_mem _ hc)
    rw [List.map_cons, List.any_cons]
    unfold PySem.W.kitAny
    rw [e]
    cases instB t c with
    | true => rfl
    | false => simpa using ih
theorem vals_ty {cs : List String} : ∀ {us : List Value}, Vals (cs.map V.ty) us → us = cs.map Value.type := by
  induction cs with
  | nil => intro us r; cases r; rfl
  | cons b bs ih => intro us r; cases r with | cons r1 r2 => rw [ih r2, show _ = Value.type b from r1]; rfl
end
theorem hu151 {A : Around} {k : Nat} (hr : Room k A) : A.units + 151 < cLine := by
  have := hr.un
  omega
end L2
set_option Elab.async false
set_option linter.all false
set_option maxRecDepth 100000
namespace L2
open PySem PySem.Spec PyProof.Rows HT
section
variable {prog : Program} {w : World} {A : Around} {E : Value → Shared → Prop} {s : Shared}
theorem whole_tuple {t sl : Addr} {items : Array Value} {vl vu : Value} {lo hi : Option Int} {Q : Value → Shared → Prop} (ht : IsTup s.heap t items) (hs : s.heap.IsSliceOf sl vl vu .none) (pl : IsPart vl lo) (pu : IsPart vu hi)
    (hw : sIx items.size 0 lo = 0 ∧ sIx items.size items.size hi = items.size) (h : Q (.ref t) s) : wpAny (model prog w) A (getItem (.ref t) (.ref sl)) Q E s := by
  have hTs : s.TypeIs (.ref sl) "slice" := by
    obtain ⟨os, hos, hcs, _⟩ := id hs
    exact ⟨os, hos, hcs⟩
  unfold getItem
  try with_reducible refine wpAny_holding ?_
  first | refine wpAny_bind (wpAny_pure ?_) | skip
  refine wpAny_bind (wpAny_sequenceKey ht.typeIs (by decide) ?_)
  refine wpAny_bind (wpAny_callSpecial?_slot (name := Str.ofString "__getitem__") ht.typeIs PyProof.Rows.slot_tuple_getitem
    (wpAny_call_entry PyProof.Rows.slot_tuple_getitem ht.typeIs entry_tuple_getitem ?_ (args_tuple_getitem _ _)))
  show wpAny _ _ (Builtin.Tuple.tupleItemsOf (.ref t) >>= _) _ _ s
  refine wpAny_bind (tupleItemsOf_ ht ?_)
  refine wpAny_bind (wpAny_typeOf hTs ?_)
  rw [if_pos (by decide)]
  refine wpAny_bind (sliceApplied_gen hs pl pu ?_)
  have yes : (((sIx items.size 0 lo : Nat) : Int) == 0 && (1 : Int) == 1 && (sIx items.size items.size hi - sIx items.size 0 lo) == items.size) = true := by
    rw [hw.1, hw.2]; simp
  show wpAny _ _ (if (((sIx items.size 0 lo : Nat) : Int) == 0 && (1 : Int) == 1 && (sIx items.size items.size hi - sIx items.size 0 lo) == items.size) = true then _ else _) _ _ s
  rw [if_pos yes]
  refine wpAny_bind (m := Builtin.Tuple.tupleIsExact _) (wpAny_bind (wpAny_typeOf ht.typeIs (wpAny_pure ?_)))
  show wpAny _ _ (if (Value.type "tuple" == Value.type "tuple") = true then _ else _) _ _ s
  rw [if_pos (by decide)]
  first
    | exact wpAny_bind (wpAny_pure (wpAny_pure ⟨_, rfl, wpAny_pure h⟩))
    | exact wpAny_bind (wpAny_rule (wpAny_pure ⟨_, rfl, wpAny_pure h⟩))
end
end L2
set_option Elab.async false
set_option linter.all false
set_option maxRecDepth 100000
set_option Elab.async false
set_option linter.all false
set_option maxRecDepth 100000
set_option Elab.async false
set_option linter.all false
set_option maxRecDepth 100000
namespace ES
open PySem PyProof.Rows
open AutoSeq1 (wpAny_loadPart')
section
variable {prog : Program} {w : World} {A : Around} {E : Value → Shared → Prop} {s : Shared}
theorem nextOf_tuple_item {it l : Addr} {i : Nat} {items} {x : Value} {Q : Value → Shared → Prop} (hit : s.heap.IsTupleIter it l i)
    (hl : s.heap.IsTuple l items) (hx : items[i]? = some x)
    (hQ : ∀ h', h'.IsTupleIter it l (i + 1) → Heap.SameBut it s.heap h' → Q x { s with heap := h' }) :
    wpAny (model prog w) A (Builtin.SmallTypes.nextOf (.ref it)) Q E s := by
  obtain ⟨o, ho, hc, hd⟩ := id hit
  obtain ⟨ol, hol, _, nl, hdl⟩ := hl
  unfold Builtin.SmallTypes.nextOf
  refine wpAny_bind (wpAny_callSpecial?_slot (name := Str.ofString "__next__") hit.typeIs F.slot_tuple_iterator_next
    (wpAny_call_entry F.slot_tuple_iterator_next hit.typeIs F.entry_tuple_iterator_next ?_ (F.args_tuple_iterator_next_1 _)))
  show wpAny _ _ (field (.ref it) 0 >>= _) _ _ s
  refine wpAny_bind (wpAny_field ho hd (x := .ref l) rfl ?_)
  show wpAny _ _ (if (Value.ref l == Value.none) = true then _ else _) _ _ s
  rw [if_neg (show ¬ ((Value.ref l == Value.none) = true) from Bool.false_ne_true)]
  show wpAny _ _ (field (.ref it) 1 >>= _) _ _ s
  refine wpAny_bind (wpAny_field ho hd (x := .int i 0) rfl ?_)
  show wpAny _ _ (seqItems? (.ref l) >>= _) _ _ s
  refine wpAny_bind (wpAny_seqItems hol hdl ?_)
  simp only [Int.toNat_natCast, hx]
  refine wpAny_bind (wpAny_setField ho hd (by simp) (wpAny_pure ⟨x, rfl, wpAny_pure (hQ _ ?_ (Heap.SameBut.update ..))⟩))
  exact ⟨_, Heap.get?_update_self _ ho (Obj.isFreed_of_fields (Obj.data_mapFields hd _)), (Obj.cls_mapFields ..).trans hc, by
    rw [Obj.data_mapFields hd]; simp [rawInt]⟩
theorem nextOf_tuple_end {it l : Addr} {i : Nat} {items} {Q : Value → Shared → Prop} (hh : A.handled = none)
    (hit : s.heap.IsTupleIter it l i) (hl : s.heap.IsTuple l items) (hx : items[i]? = none)
    (hE : ∀ h' e, Heap.ExtBut it s.heap h' → (∃ o, h'.get? e = some o ∧ o.cls = .type "StopIteration") → E (.ref e) { s with heap := h' }) :
    wpAny (model prog w) A (Builtin.SmallTypes.nextOf (.ref it)) Q E s := by
  obtain ⟨o, ho, hc, hd⟩ := id hit
  obtain ⟨ol, hol, _, nl, hdl⟩ := hl
  unfold Builtin.SmallTypes.nextOf
  refine wpAny_bind (wpAny_callSpecial?_slot (name := Str.ofString "__next__") hit.typeIs F.slot_tuple_iterator_next
    (wpAny_call_entry F.slot_tuple_iterator_next hit.typeIs F.entry_tuple_iterator_next ?_ (F.args_tuple_iterator_next_1 _)))
  show wpAny _ _ (field (.ref it) 0 >>= _) _ _ s
  refine wpAny_bind (wpAny_field ho hd (x := .ref l) rfl ?_)
  show wpAny _ _ (if (Value.ref l == Value.none) = true then _ else _) _ _ s
  rw [if_neg (show ¬ ((Value.ref l == Value.none) = true) from Bool.false_ne_true)]
  show wpAny _ _ (field (.ref it) 1 >>= _) _ _ s
  refine wpAny_bind (wpAny_field ho hd (x := .int i 0) rfl ?_)
  show wpAny _ _ (seqItems? (.ref l) >>= _) _ _ s
  refine wpAny_bind (wpAny_seqItems hol hdl ?_)
  simp only [Int.toNat_natCast, hx]
  refine wpAny_bind (wpAny_rule (wpAny_bind (wpAny_setField ho hd (by simp) ?_)))
  show wpAny _ _ (newExc (.type "StopIteration") [] >>= _) _ _ _
  refine wpAny_bind ?_
  simp only [newExc, newTuple]
  refine wpAny_bind (wpAny_newObj_type ?_ (by size_fits))
  refine wpAny_bind (m := firstArgMember _ _) (wpAny_of_eq (a := Value.none) (by first | rfl | (simp only [firstArgMember]; rfl)) ?_)
  refine wpAny_newObj_type ?_ (by size_fits)
  simp only [raiseNew]
  refine wpAny_bind (wpAny_handled ?_)
  first | rw [show A.in1.handled = none from hh] | rw [hh]
  refine wpAny_bind (wpAny_pure (wpAny_throw ?_))
  exact hE _ _ (((Heap.SameBut.update ..).extBut.push _).push _) ⟨_, Heap.get?_push_size _ rfl, rfl⟩
end
theorem drawsT {prog : Program} {w : World} {A : Around} (hh : A.handled = none) (it l : Addr) (hne : l ≠ it) (items : Array Value) :
    Draws prog w A it [it, l] items.size (fun i v => items[i]? = some v) (fun i h => h.IsTupleIter it l i ∧ h.IsTuple l items) where
  live := fun _ _ st => let ⟨o, ho, _⟩ := st.1; ⟨o, ho⟩
  frame := fun _ _ _ st hk => by
    obtain ⟨⟨o, e, r⟩, ⟨o', e', r'⟩⟩ := st
    exact ⟨⟨o, hk it (by simp) o e, r⟩, ⟨o', hk l (by simp) o' e', r'⟩⟩
  item := fun i s Q E hi st hQ => by
    refine nextOf_tuple_item st.1 st.2 (x := items[i]) (by simp [hi]) fun h' hit' hs' => ?_
    exact hQ _ h' s.toks (by simp [hi]) ⟨hit', st.2.extBut hs'.extBut hne⟩ hs'
  done := fun s Q E st hE => nextOf_tuple_end hh st.1 st.2 (by simp) hE
theorem meets_newT (l : Addr) (items : Array Value) (n : Nat) (dct : Option Addr) (sl : Array (Option Value)) :
    Meets (Builtin.«enumerate.__new__» ⟨[.type "enumerate", .ref l], []⟩) (fun _ R s => s.heap.get? l = some { cls := .type "tuple", dict := dct, data := .seq items n, slots := sl } ∧
      R (.ok (.ret (.ref (s.heap.push { cls := .type "tuple_iterator", data := .fields #[.ref l, .int 0 0] }).objs.size)))
        { s with heap := (s.heap.push { cls := .type "tuple_iterator", data := .fields #[.ref l, .int 0 0] }).push { cls := .type "enumerate", data := .fields #[.none, .bool false, .ref s.heap.objs.size, rawInt 0, .none, .none] } }) :=
  .of_wp fun prog w A R s h => by
    obtain ⟨hp, g, d, tk, os⟩ := s; obtain ⟨hl, h⟩ := h
    have hsub := sub_enumerate
    have hL : Heap.IsTuple (Shared.heap ⟨hp, g, d, tk, os⟩) l items := ⟨_, hl, rfl, n, rfl⟩
    wp_walk using wpAny_loadPart' hl
    refine wpAny_stack_any fun st => wpAny_pure ?_
    split
    · rename_i c _ _ _ _ _
      cases (c == Value.type "enumerate")
      · wp_walk using wpAny_loadPart' hl, wpAny_pyIter_tuple hL
        exact ⟨_, rfl, h⟩
      · wp_walk using wpAny_loadPart' hl, wpAny_pyIter_tuple hL
        exact ⟨_, rfl, h⟩
    · wp_walk using wpAny_loadPart' hl, wpAny_pyIter_tuple hL
      exact ⟨_, rfl, h⟩
section
variable {prog : Program} {w : World} {A : Around} {E : Value → Shared → Prop} {s : Shared}
theorem call_enumerate_tuple {l : Addr} {items : Array Value} {Q : Value → Shared → Prop} (hL : s.heap.IsTuple l items)
    (h : ∀ h', IsEnum h' (s.heap.objs.size + 1) s.heap.objs.size 0 .none → h'.IsTupleIter s.heap.objs.size l 0 → h'.objs.size = s.heap.objs.size + 2 →
      (∀ b o, s.heap.get? b = some o → h'.get? b = some o) → Q (.ref (s.heap.objs.size + 1)) { s with heap := h' }) :
    wpAny (model prog w) A (call (.type "enumerate") [.ref l]) Q E s := by
  obtain ⟨⟨c, dct, dt, sl⟩, hl, hc, n, hd⟩ := hL
  replace hc : c = .type "tuple" := hc
  replace hd : dt = .seq items n := hd
  subst hc hd
  refine callType_new F.called_enumerate (by decide) (F.typeCall_enumerate_1 _) (F.newCall_enumerate_1 _) (fun obj => F.args_object_init_2 obj _) F.entry_enumerate_new
    (meets_newT l items n dct sl) ⟨hl, ?_⟩
  have hz : (s.heap.push { cls := .type "tuple_iterator", data := .fields #[.ref l, .int 0 0] }).objs.size = s.heap.objs.size + 1 := Heap.size_push ..
  show _ ∧ _
  rw [hz]
  have he : IsEnum ((s.heap.push { cls := .type "tuple_iterator", data := .fields #[.ref l, .int 0 0] }).push
      { cls := .type "enumerate", data := .fields #[.none, .bool false, .ref s.heap.objs.size, rawInt 0, .none, .none] }) (s.heap.objs.size + 1) s.heap.objs.size 0 .none := by
    have := Heap.get?_push_size (s.heap.push { cls := .type "tuple_iterator", data := .fields #[.ref l, .int 0 0] })
      (o := { cls := .type "enumerate", data := .fields #[.none, .bool false, .ref s.heap.objs.size, rawInt 0, .none, .none] }) rfl
    rw [hz] at this; exact this
  refine ⟨⟨_, he, rfl⟩, h _ he ⟨_, Heap.get?_push_of_some _ (Heap.get?_push_size _ rfl), rfl, rfl⟩ (by rw [Heap.size_push, hz]) fun b o x => Heap.get?_push_of_some _ (Heap.get?_push_of_some _ x)⟩
end
end ES
set_option Elab.async false
set_option linter.all false
set_option maxRecDepth 100000
namespace L2
open PySem PySem.Spec PyProof.Rows
section
variable {X : Cx} {pins : List (Addr × Obj)} {σ : St} {H : Hp} {s : Shared}
theorem Inv.turnedT {t' : Nat} {ch : List Addr} {p : Addr} {xs : List V} {its : List Value} {h' : Heap} (I : Inv X pins σ H s) (k : ∀ b o, b ∉ ch → s.heap.get? b = some o → h'.get? b = some o) (hf : ∀ b ∈ ch, FpOk X pins H b)
    (hp : s.heap.objs.size ≤ p) (hx : Vals xs its) (hz : xs.length ≤ sizeLine) (ht : IsTupX h' p its.toArray) : Inv X pins σ (upd H p (.tup xs)) { s with heap := h', toks := t' } := by
  have hn : H p = none := I.hok.fresh hp
  have nch : ∀ b u, H b = some u → b ∉ ch := fun b u e z => by rw [(hf b z).1] at e; cases e
  refine I.call (g' := s.gens) (d' := s.drawn) (ch := ch) ⟨fun b o e _ _ hb => k b o hb e, fun b o e _ _ hb => ⟨o.slots, k b o hb e⟩, fun b o e n hb => ?_, fun b o e hb => ⟨o, k b o hb e⟩, fun b ys q => by rw [upd_ne (ne_of_none q hn)]; exact q, fun b u ys q => by rw [upd_ne (ne_of_none q hn)]; exact q, fun b ps q => ⟨#[], by rw [upd_ne (ne_of_none q hn), q]; simp⟩⟩ (fun b u e => ?_) I.bare fun b hb => ⟨(hf b hb).2.2.2.1, (hf b hb).2.1, (hf b hb).2.2.2.2.1, (hf b hb).2.2.2.2.2⟩
  · rw [upd_ne (Nat.ne_of_lt (Nat.lt_of_lt_of_le (Heap.lt_size e) hp))]; exact n
  · by_cases hb : b = p
    · subst hb
      rw [upd_same] at e
      cases e
      exact ⟨hz, its, hx, ht⟩
    · rw [upd_ne hb] at e
      refine (I.hok b u e).stay (fun c v hc q => k c v ?_ q) (fun c q => ?_) fun c ys q => ?_
      · rcases hc with z | z
        · rw [z]; exact nch b u e
        · exact nch c _ z
      · rw [upd_ne (ne_of_none q hn)]; exact q
      · rw [upd_ne (ne_of_none q hn)]; exact q
theorem Inv.turnedL {t' : Nat} {ch : List Addr} {h' : Heap} (I : Inv X pins σ H s) (k : ∀ b o, b ∉ ch → s.heap.get? b = some o → h'.get? b = some o) (hf : ∀ b ∈ ch, FpOk X pins H b) : Inv X pins σ H { s with heap := h', toks := t' } := by
  have nch : ∀ b u, H b = some u → b ∉ ch := fun b u e z => by rw [(hf b z).1] at e; cases e
  refine I.call (g' := s.gens) (d' := s.drawn) (ch := ch) ⟨fun b o e _ _ hb => k b o hb e, fun b o e _ _ hb => ⟨o.slots, k b o hb e⟩, fun b o e n hb => n, fun b o e hb => ⟨o, k b o hb e⟩, fun b ys q => q, fun b u ys q => q, fun b ps q => ⟨#[], by rw [q]; simp⟩⟩ (fun b u e => ?_) I.bare fun b hb => ⟨(hf b hb).2.2.2.1, (hf b hb).2.1, (hf b hb).2.2.2.2.1, (hf b hb).2.2.2.2.2⟩
  refine (I.hok b u e).stay (fun c v hc q => k c v ?_ q) (fun c q => q) fun c ys q => q
  rcases hc with z | z
  · rw [z]; exact nch b u e
  · exact nch c _ z
end
end L2
set_option Elab.async false
set_option linter.all false
set_option maxRecDepth 100000
namespace L2
open PySem PySem.Spec PyProof.Rows
inductive M where
  | non | bl (b : Bool) | int (i : Int) | str (x : Str) | ty (n : String)
  | tup (xs : List M) | lst (xs : List M) | dct (ks : List Key) (xs : List M) | ref (k : Nat) | scr (ns : List Int)
inductive MO where
  | lst (xs : List M) | dct (kvs : List (Key × M))
abbrev HpM := List MO
abbrev EnvM := List (Option M)
abbrev FE := EnvM → HpM → Option (M × HpM)
abbrev FA := EnvM → HpM → Option (List M × HpM)
abbrev FT := EnvM → HpM → Option (Bool × HpM)
abbrev FF := List M → HpM → Option (M × HpM)
inductive Out where
  | nx (ρ : EnvM) | bk (ρ : EnvM) | ct (ρ : EnvM) | rt (d : M)
abbrev FS := EnvM → HpM → Option (Out × HpM)
abbrev FG := M → EnvM → HpM → Option (EnvM × HpM)

structure Pl where
  a : List Addr
  g : List Addr
def Pl.no (α : Pl) (b : Addr) : Prop := b ∉ α.a ∧ b ∉ α.g
def Pl.add (α : Pl) (b : Addr) : Pl := ⟨α.a ++ [b], α.g⟩
def Pl.hide (α : Pl) (b : Addr) : Pl := ⟨α.a, b :: α.g⟩
def TupAt (K : PySem.W.Frag) (α : Pl) (H : Hp) (a : Addr) (vs : List V) : Prop :=
  (Rd H a (.tup vs) ∧ α.no a) ∨
    ∃ (o : Obj) (its : Array Value) (n : Nat), K.lookup a = some o ∧ TupC o ∧ o.data = .seq its n ∧ its.size ≤ sizeLine ∧ Vals vs its.toList
def ScrAt (K : PySem.W.Frag) (α : Pl) (H : Hp) (a : Addr) (vs : List V) : Prop :=
  (Rd H a (.lst vs) ∧ α.no a) ∨
    ∃ (o : Obj) (its : Array Value) (n : Nat), K.lookup a = some o ∧ o.cls = .type "list" ∧ o.dict = none ∧ o.data = .seq its n ∧ its.size ≤ sizeLine ∧ Vals vs its.toList
mutual
def RepA (K : PySem.W.Frag) (α : Pl) (H : Hp) : M → V → Prop
  | .non, v => v = .non
  | .bl b, v => v = .bl b
  | .int i, v => v = .int i
  | .str x, v => v = .str x
  | .ty n, v => v = .ty n
  | .tup xs, v => ∃ a vs, v = .ref a ∧ TupAt K α H a vs ∧ RepAs K α H xs vs
  | .scr ns, v => ∃ a, v = .ref a ∧ ScrAt K α H a (ns.map V.int)
  | .lst xs, v => ∃ a vs, v = .ref a ∧ α.no a ∧ H a = some (.lst vs) ∧ RepAs K α H xs vs
  | .dct ks xs, v => ∃ a ws, v = .ref a ∧ α.no a ∧ Rd H a (.dK ws) ∧ ws.map (·.1) = ks ∧ RepAs K α H xs (ws.map (·.2))
  | .ref k, v => ∃ a, α.a[k]? = some a ∧ v = .ref a
def RepAs (K : PySem.W.Frag) (α : Pl) (H : Hp) : List M → List V → Prop
  | [], vs => vs = []
  | x :: xs, vs => ∃ v r, vs = v :: r ∧ RepA K α H x v ∧ RepAs K α H xs r
end
def RepO (K : PySem.W.Frag) (α : Pl) (H : Hp) : MO → Addr → Prop
  | .lst xs, a => ∃ vs, H a = some (.lst vs) ∧ RepAs K α H xs vs
  | .dct kvs, a => ∃ ws, H a = some (.dK ws) ∧ ws.map (·.1) = kvs.map (·.1) ∧ RepAs K α H (kvs.map (·.2)) (ws.map (·.2))
structure Rl (K : PySem.W.Frag) (α : Pl) (h : HpM) (H : Hp) : Prop where
  len : α.a.length = h.length
  nd : α.a.Nodup
  ap : ∀ b ∈ α.a, b ∉ α.g
  hid : ∀ b ∈ α.g, ∃ o, H b = some o
  obj : ∀ (k : Nat) (a : Addr) (o : MO), α.a[k]? = some a → h[k]? = some o → RepO K α H o a
def NotD : HO → Prop
  | .dK _ => False
  | _ => True
structure Ev (α α' : Pl) (H H' : Hp) : Prop where
  pre : α'.g = α.g ∧ ∃ β, α'.a = α.a ++ β ∧ ∀ b ∈ β, H b = none
  keep : ∀ b o, H b = some o → (NotD o ∨ b ∈ α.g) → b ∉ α.a → H' b = some o
  keepD : ∀ b ws, H b = some (.dK ws) → b ∉ α.a → Rd H' b (.dK ws)
  dom : ∀ b, H' b = none → H b = none
def REnv (K : PySem.W.Frag) (α : Pl) (H : Hp) (ρ : EnvM) (σ : St) : Prop :=
  ρ.length = σ.length ∧ ∀ (i : Nat) (m : M), ρ[i]? = some (some m) → ∃ v, σ[i]? = some (some v) ∧ RepA K α H m v

theorem Ev.mkk {α α' : Pl} {H H' : Hp} (pre : α'.g = α.g ∧ ∃ β, α'.a = α.a ++ β ∧ ∀ b ∈ β, H b = none) (keep : ∀ b o, H b = some o → b ∉ α.a → H' b = some o) (dom : ∀ b, H' b = none → H b = none) : Ev α α' H H' :=
  ⟨pre, fun b o h _ n => keep b o h n, fun b ws h n => .inl (keep b _ h n), dom⟩
theorem Ev.refl {α : Pl} {H : Hp} : Ev α α H H := .mkk ⟨rfl, [], by simp, by simp⟩ (fun _ _ e _ => e) (fun _ e => e)
theorem Ev.notA {α α' : Pl} {H H' : Hp} (e : Ev α α' H H') {b : Addr} {o : HO} (hb : H b = some o) (n : b ∉ α.a) : b ∉ α'.a := by
  obtain ⟨_, β, e1, f⟩ := e.pre
  intro h
  rw [e1] at h
  rcases List.mem_append.mp h with h | h
  · exact n h
  · rw [f b h] at hb; cases hb
theorem Ev.notMem {α α' : Pl} {H H' : Hp} (e : Ev α α' H H') {b : Addr} {o : HO} (hb : H b = some o) (n : α.no b) : α'.no b := ⟨e.notA hb n.1, by rw [e.pre.1]; exact n.2⟩
theorem Ev.trans {α α1 α2 : Pl} {H H1 H2 : Hp} (e : Ev α α1 H H1) (f : Ev α1 α2 H1 H2) : Ev α α2 H H2 := by
  refine ⟨?_, fun b o hb q n => f.keep b o (e.keep b o hb q n) (q.imp id fun z => by rw [e.pre.1]; exact z) (e.notA hb n), fun b ws hb n => ?_, fun b hb => e.dom b (f.dom b hb)⟩
  rotate_left
  · rcases e.keepD b ws hb n with z | ⟨o, z⟩
    · exact f.keepD b ws z (e.notA hb n)
    · exact .inr ⟨o, f.keep b _ z (.inl trivial) (e.notA hb n)⟩
  obtain ⟨g1, β, e1, f1⟩ := e.pre
  obtain ⟨g2, γ, e2, f2⟩ := f.pre
  refine ⟨g2.trans g1, β ++ γ, by rw [e2, e1, List.append_assoc], fun b hb => ?_⟩
  rcases List.mem_append.mp hb with hb | hb
  · exact f1 b hb
  · exact e.dom b (f2 b hb)
theorem Ev.same {α : Pl} {H H' : Hp} (s : Same H H') : Ev α α H H' := .mkk ⟨rfl, [], by simp, by simp⟩ (fun b o e _ => s b o e) (fun b e => by
  cases h : H b with
  | none => rfl
  | some o => rw [s b o h] at e; cases e)
theorem Ev.rd {α α' : Pl} {H H' : Hp} (e : Ev α α' H H') {a : Addr} {u : HO} (r : Rd H a u) (n : α.no a) (hd : NotD u) : Rd H' a u ∧ α'.no a := by
  rcases r with r | ⟨o, r⟩
  · exact ⟨.inl (e.keep _ _ r (.inl hd) n.1), e.notMem r n⟩
  · exact ⟨.inr ⟨o, e.keep _ _ r (.inl trivial) n.1⟩, e.notMem r n⟩
theorem Ev.rdD {α α' : Pl} {H H' : Hp} (e : Ev α α' H H') {a : Addr} {ws : List (Key × V)} (r : Rd H a (.dK ws)) (n : α.no a) : Rd H' a (.dK ws) ∧ α'.no a := by
  rcases r with r | ⟨o, r⟩
  · exact ⟨e.keepD _ _ r n.1, e.notMem r n⟩
  · exact ⟨.inr ⟨o, e.keep _ _ r (.inl trivial) n.1⟩, e.notMem r n⟩
theorem Ev.ix {α α' : Pl} {H H' : Hp} (e : Ev α α' H H') {k : Nat} {a : Addr} (h : α.a[k]? = some a) : α'.a[k]? = some a := by
  obtain ⟨_, β, e1, _⟩ := e.pre
  have hk : k < α.a.length := (List.getElem?_eq_some_iff.mp h).1
  rw [e1, List.getElem?_append_left hk]; exact h
theorem TupAt.ev {K : PySem.W.Frag} {α α' : Pl} {H H' : Hp} (e : Ev α α' H H') {a : Addr} {vs : List V} (t : TupAt K α H a vs) : TupAt K α' H' a vs := by
  rcases t with ⟨r, n⟩ | t
  · exact .inl (e.rd r n trivial)
  · exact .inr t
theorem TupAt.sq {K : PySem.W.Frag} {α : Pl} {H : Hp} {a : Addr} {vs : List V} (t : TupAt K α H a vs) : SqT K H a vs := by
  rcases t with ⟨r, _⟩ | t
  · exact .inl r
  · exact .inr t
theorem ScrAt.ev {K : PySem.W.Frag} {α α' : Pl} {H H' : Hp} (e : Ev α α' H H') {a : Addr} {vs : List V} (t : ScrAt K α H a vs) : ScrAt K α' H' a vs := by
  rcases t with ⟨r, n⟩ | t
  · exact .inl (e.rd r n trivial)
  · exact .inr t
theorem ScrAt.sq {K : PySem.W.Frag} {α : Pl} {H : Hp} {a : Addr} {vs : List V} (t : ScrAt K α H a vs) : SqL K H a vs := by
  rcases t with ⟨r, _⟩ | t
  · exact .inl r
  · exact .inr t
mutual
theorem RepA.ev {K : PySem.W.Frag} {α α' : Pl} {H H' : Hp} (e : Ev α α' H H') : ∀ {m : M} {v : V}, RepA K α H m v → RepA K α' H' m v
  | .non, _, h => h
  | .bl _, _, h => h
  | .int _, _, h => h
  | .str _, _, h => h
  | .ty _, _, h => h
  | .tup xs, _, ⟨a, vs, e1, t, r⟩ => ⟨a, vs, e1, t.ev e, RepAs.ev e r⟩
  | .scr ns, _, ⟨a, e1, t⟩ => ⟨a, e1, t.ev e⟩
  | .lst xs, _, ⟨a, vs, e1, n, t, r⟩ => ⟨a, vs, e1, e.notMem t n, e.keep _ _ t (.inl trivial) n.1, RepAs.ev e r⟩
  | .dct ks xs, _, ⟨a, ws, e1, n, t, ek, r⟩ => ⟨a, ws, e1, (e.rdD t n).2, (e.rdD t n).1, ek, RepAs.ev e r⟩
  | .ref k, _, ⟨a, h, e1⟩ => ⟨a, e.ix h, e1⟩
theorem RepAs.ev {K : PySem.W.Frag} {α α' : Pl} {H H' : Hp} (e : Ev α α' H H') : ∀ {xs : List M} {vs : List V}, RepAs K α H xs vs → RepAs K α' H' xs vs
  | [], _, h => h
  | x :: xs, _, ⟨v, r, e1, h1, h2⟩ => ⟨v, r, e1, RepA.ev e h1, RepAs.ev e h2⟩
end
theorem REnv.ev {K : PySem.W.Frag} {α α' : Pl} {H H' : Hp} (e : Ev α α' H H') {ρ : EnvM} {σ : St} (r : REnv K α H ρ σ) : REnv K α' H' ρ σ :=
  ⟨r.1, fun i m h => by obtain ⟨v, h1, h2⟩ := r.2 i m h; exact ⟨v, h1, h2.ev e⟩⟩
theorem RepAs.length {K : PySem.W.Frag} {α : Pl} {H : Hp} : ∀ {xs : List M} {vs : List V}, RepAs K α H xs vs → xs.length = vs.length
  | [], _, h => by cases (show _ = [] from h); rfl
  | x :: xs, _, ⟨v, r, e1, _, h2⟩ => by subst e1; simp [RepAs.length h2]
theorem RepAs.get {K : PySem.W.Frag} {α : Pl} {H : Hp} : ∀ {xs : List M} {vs : List V} {i : Nat} {m : M}, RepAs K α H xs vs → xs[i]? = some m → ∃ v, vs[i]? = some v ∧ RepA K α H m v
  | [], _, _, _, _, h => by simp at h
  | x :: xs, _, 0, m, ⟨v, r, e1, h1, h2⟩, h => by subst e1; simp at h; subst h; exact ⟨v, rfl, h1⟩
  | x :: xs, _, i + 1, m, ⟨v, r, e1, h1, h2⟩, h => by subst e1; simpa using RepAs.get (i := i) h2 (by simpa using h)
theorem RepAs.app {K : PySem.W.Frag} {α : Pl} {H : Hp} : ∀ {xs : List M} {vs : List V} {ys : List M} {ws : List V}, RepAs K α H xs vs → RepAs K α H ys ws → RepAs K α H (xs ++ ys) (vs ++ ws)
  | [], _, _, _, h, h' => by cases (show _ = [] from h); exact h'
  | x :: xs, _, _, _, ⟨v, r, e1, h1, h2⟩, h' => by subst e1; exact ⟨v, _, rfl, h1, RepAs.app h2 h'⟩
theorem RepAs.drop {K : PySem.W.Frag} {α : Pl} {H : Hp} : ∀ {xs : List M} {vs : List V} (n : Nat), RepAs K α H xs vs → RepAs K α H (xs.drop n) (vs.drop n)
  | _, _, 0, h => h
  | [], _, _ + 1, h => by cases (show _ = [] from h); exact rfl
  | x :: xs, _, n + 1, ⟨v, r, e1, h1, h2⟩ => by subst e1; exact RepAs.drop n h2
theorem RepAs.take {K : PySem.W.Frag} {α : Pl} {H : Hp} : ∀ {xs : List M} {vs : List V} (n : Nat), RepAs K α H xs vs → RepAs K α H (xs.take n) (vs.take n)
  | _, _, 0, h => by simp only [List.take_zero]; exact rfl
  | [], _, _ + 1, h => by cases (show _ = [] from h); exact rfl
  | x :: xs, _, n + 1, ⟨v, r, e1, h1, h2⟩ => by subst e1; exact ⟨v, _, rfl, h1, RepAs.take n h2⟩
theorem RepAs.set {K : PySem.W.Frag} {α : Pl} {H : Hp} {m : M} {v : V} (hm : RepA K α H m v) : ∀ {xs : List M} {vs : List V} (n : Nat), RepAs K α H xs vs → RepAs K α H (xs.set n m) (vs.set n v)
  | [], _, n, h => by cases (show _ = [] from h); exact rfl
  | x :: xs, _, 0, ⟨v, r, e1, h1, h2⟩ => by subst e1; exact ⟨_, _, rfl, hm, h2⟩
  | x :: xs, _, n + 1, ⟨v, r, e1, h1, h2⟩ => by subst e1; exact ⟨v, _, rfl, h1, RepAs.set hm n h2⟩
theorem RepAs.snoc {K : PySem.W.Frag} {α : Pl} {H : Hp} {xs : List M} {vs : List V} {m : M} {v : V} (h : RepAs K α H xs vs) (hm : RepA K α H m v) : RepAs K α H (xs ++ [m]) (vs ++ [v]) := h.app ⟨v, [], rfl, hm, rfl⟩
theorem RepAs.at {K : PySem.W.Frag} {α : Pl} {H : Hp} {xs : List M} {vs : List V} {i : Int} {m : M} (h : RepAs K α H xs vs) (e : atI xs i = some m) : ∃ v, atI vs i = some v ∧ RepA K α H m v := by
  unfold atI at e ⊢
  rw [← h.length]
  cases q : ixN xs.length i with
  | none => rw [q] at e; cases e
  | some j =>
    rw [q] at e
    exact h.get e
theorem Rl.same {K : PySem.W.Frag} {α : Pl} {h : HpM} {H H' : Hp} (r : Rl K α h H) (s : Same H H') : Rl K α h H' :=
  ⟨r.len, r.nd, r.ap, fun b hb => by
    obtain ⟨o, e⟩ := r.hid b hb
    exact ⟨o, s b o e⟩, fun k a o hk ho => by
    have e : Ev α α H H' := Ev.same s
    have q := r.obj k a o hk ho
    cases o with
    | lst xs => obtain ⟨vs, h1, h2⟩ := q; exact ⟨vs, s _ _ h1, h2.ev e⟩
    | dct kvs => obtain ⟨ws, h1, h2, h3⟩ := q; exact ⟨ws, s _ _ h1, h2, h3.ev e⟩⟩
theorem Rl.some_at {K : PySem.W.Frag} {α : Pl} {h : HpM} {H : Hp} (r : Rl K α h H) {a : Addr} (ha : a ∈ α.a) : ∃ o, H a = some o := by
  obtain ⟨k, hk⟩ := List.getElem?_of_mem ha
  have hl : k < h.length := by rw [← r.len]; exact (List.getElem?_eq_some_iff.mp hk).1
  have q := r.obj k a h[k] hk (by simp [hl])
  revert q
  cases h[k] with
  | lst xs => rintro ⟨vs, h1, _⟩; exact ⟨_, h1⟩
  | dct kvs => rintro ⟨vs, h1, _⟩; exact ⟨_, h1⟩
theorem Ev.write {K : PySem.W.Frag} {α : Pl} {h : HpM} {H : Hp} (r : Rl K α h H) {a : Addr} (ha : a ∈ α.a) {u : HO} : Ev α α H (upd H a u) :=
  .mkk ⟨rfl, [], by simp, by simp⟩ (fun b o e n => by
    have hba : b ≠ a := by intro z; subst z; exact n ha
    rw [upd_ne hba]; exact e) (fun b e => by
    by_cases hb : b = a
    · subst hb; rw [upd_same] at e; cases e
    · rw [upd_ne hb] at e; exact e)
theorem Rl.write {K : PySem.W.Frag} {α : Pl} {h : HpM} {H : Hp} (r : Rl K α h H) {k : Nat} {a : Addr} (ha : α.a[k]? = some a) {u : HO} {o : MO} (ho : RepO K α (upd H a u) o a) : Rl K α (h.set k o) (upd H a u) := by
  have e : Ev α α H (upd H a u) := Ev.write r (List.mem_of_getElem? ha)
  refine ⟨by simp [r.len], r.nd, r.ap, fun b hb => by
    obtain ⟨o, e⟩ := r.hid b hb
    by_cases z : b = a
    · subst z; exact ⟨_, upd_same⟩
    · exact ⟨o, by rw [upd_ne z]; exact e⟩, fun j b o' hj ho' => ?_⟩
  by_cases hjk : j = k
  · subst hjk
    rw [ha] at hj; cases hj
    have hl : j < h.length := by rw [← r.len]; exact (List.getElem?_eq_some_iff.mp ha).1
    rw [List.getElem?_set_self hl] at ho'; cases ho'
    exact ho
  · rw [List.getElem?_set_ne (fun z => hjk z.symm)] at ho'
    have hba : b ≠ a := fun z => by
      subst z
      have hjl := (List.getElem?_eq_some_iff.mp hj)
      have hkl := (List.getElem?_eq_some_iff.mp ha)
      exact hjk ((List.getElem_inj r.nd).mp (hjl.2.trans hkl.2.symm))
    have q := r.obj j b o' hj ho'
    cases o' with
    | lst xs => obtain ⟨vs, h1, h2⟩ := q; exact ⟨vs, by rw [upd_ne hba]; exact h1, h2.ev e⟩
    | dct kvs => obtain ⟨ws, h1, h2, h3⟩ := q; exact ⟨ws, by rw [upd_ne hba]; exact h1, h2, h3.ev e⟩
theorem Ev.alloc {α : Pl} {H : Hp} {p : Addr} (hp : H p = none) {u : HO} : Ev α (α.add p) H (upd H p u) :=
  .mkk ⟨rfl, [p], rfl, fun b hb => by rw [List.mem_singleton.mp hb]; exact hp⟩ (fun b o e _ => upd_new e hp) (fun b e => by
    by_cases hb : b = p
    · subst hb; exact hp
    · rw [upd_ne hb] at e; exact e)
theorem Rl.newA {K : PySem.W.Frag} {α : Pl} {h : HpM} {H : Hp} (r : Rl K α h H) {p : Addr} (hp : H p = none) : p ∉ α.a := fun hm => by
  obtain ⟨o, e⟩ := r.some_at hm
  rw [hp] at e; cases e
theorem Rl.new {K : PySem.W.Frag} {α : Pl} {h : HpM} {H : Hp} (r : Rl K α h H) {p : Addr} (hp : H p = none) : α.no p := ⟨r.newA hp, fun hm => by
  obtain ⟨o, e⟩ := r.hid p hm
  rw [hp] at e; cases e⟩
theorem Rl.alloc {K : PySem.W.Frag} {α : Pl} {h : HpM} {H : Hp} (r : Rl K α h H) {p : Addr} (hp : H p = none) {u : HO} {o : MO} (ho : RepO K (α.add p) (upd H p u) o p) : Rl K (α.add p) (h ++ [o]) (upd H p u) := by
  have e : Ev α (α.add p) H (upd H p u) := Ev.alloc hp
  refine ⟨by simp [r.len, Pl.add], ?_, fun b hb => ?_, fun b hb => ?_, fun j b o' hj ho' => ?_⟩
  · show (α.a ++ [p]).Nodup
    rw [List.nodup_append]
    refine ⟨r.nd, by simp, fun x hx y hy => ?_⟩
    rw [List.mem_singleton.mp hy]
    exact fun z => r.newA hp (z ▸ hx)
  · rcases List.mem_append.mp (show b ∈ α.a ++ [p] from hb) with hb | hb
    · exact r.ap b hb
    · rw [List.mem_singleton.mp hb]; exact (r.new hp).2
  · obtain ⟨o, e⟩ := r.hid b hb
    exact ⟨o, upd_new e hp⟩
  · have hj : (α.a ++ [p])[j]? = some b := hj
    by_cases hl : j < α.a.length
    · rw [List.getElem?_append_left hl] at hj
      rw [List.getElem?_append_left (by rw [← r.len]; exact hl)] at ho'
      have q := r.obj j b o' hj ho'
      cases o' with
      | lst xs => obtain ⟨vs, h1, h2⟩ := q; exact ⟨vs, upd_new h1 hp, h2.ev e⟩
      | dct kvs => obtain ⟨ws, h1, h2, h3⟩ := q; exact ⟨ws, upd_new h1 hp, h2, h3.ev e⟩
    · have hj' : j < α.a.length + 1 := by simpa using (List.getElem?_eq_some_iff.mp hj).1
      have ej : j = α.a.length := by omega
      subst ej
      rw [List.getElem?_append_right (Nat.le_refl _)] at hj
      simp at hj
      rw [r.len, List.getElem?_append_right (Nat.le_refl _)] at ho'
      simp at ho'
      subst hj ho'
      exact ho
mutual
theorem RepA.hide {K : PySem.W.Frag} {α : Pl} {H : Hp} {p : Addr} (hp : H p = none) : ∀ {m : M} {v : V}, RepA K α H m v → RepA K (α.hide p) H m v
  | .non, _, h => h
  | .bl _, _, h => h
  | .int _, _, h => h
  | .str _, _, h => h
  | .ty _, _, h => h
  | .tup xs, _, ⟨a, vs, e1, t, r⟩ => ⟨a, vs, e1, t.elim (fun ⟨q, n⟩ => .inl ⟨q, n.1, fun hm => by
      rcases List.mem_cons.mp hm with z | z
      · subst z; rcases q with q | ⟨_, q⟩ <;> (rw [hp] at q; cases q)
      · exact n.2 z⟩) .inr, RepAs.hide hp r⟩
  | .scr ns, _, ⟨a, e1, t⟩ => ⟨a, e1, t.elim (fun ⟨q, n⟩ => .inl ⟨q, n.1, fun hm => by
      rcases List.mem_cons.mp hm with z | z
      · subst z; rcases q with q | ⟨_, q⟩ <;> (rw [hp] at q; cases q)
      · exact n.2 z⟩) .inr⟩
  | .lst xs, _, ⟨a, vs, e1, n, t, r⟩ => ⟨a, vs, e1, ⟨n.1, fun hm => by
      rcases List.mem_cons.mp hm with z | z
      · subst z; rw [hp] at t; cases t
      · exact n.2 z⟩, t, RepAs.hide hp r⟩
  | .dct ks xs, _, ⟨a, ws, e1, n, t, ek, r⟩ => ⟨a, ws, e1, ⟨n.1, fun hm => by
      rcases List.mem_cons.mp hm with z | z
      · subst z; rcases t with t | ⟨_, t⟩ <;> (rw [hp] at t; cases t)
      · exact n.2 z⟩, t, ek, RepAs.hide hp r⟩
  | .ref k, _, h => h
theorem RepAs.hide {K : PySem.W.Frag} {α : Pl} {H : Hp} {p : Addr} (hp : H p = none) : ∀ {xs : List M} {vs : List V}, RepAs K α H xs vs → RepAs K (α.hide p) H xs vs
  | [], _, h => h
  | x :: xs, _, ⟨v, r, e1, h1, h2⟩ => ⟨v, r, e1, RepA.hide hp h1, RepAs.hide hp h2⟩
end
mutual
theorem RepA.show {K : PySem.W.Frag} {α : Pl} {H : Hp} {p : Addr} : ∀ {m : M} {v : V}, RepA K (α.hide p) H m v → RepA K α H m v
  | .non, _, h => h
  | .bl _, _, h => h
  | .int _, _, h => h
  | .str _, _, h => h
  | .ty _, _, h => h
  | .tup xs, _, ⟨a, vs, e1, t, r⟩ => ⟨a, vs, e1, t.elim (fun ⟨q, n⟩ => .inl ⟨q, n.1, fun hm => n.2 (List.mem_cons_of_mem _ hm)⟩) .inr, RepAs.show r⟩
  | .scr ns, _, ⟨a, e1, t⟩ => ⟨a, e1, t.elim (fun ⟨q, n⟩ => .inl ⟨q, n.1, fun hm => n.2 (List.mem_cons_of_mem _ hm)⟩) .inr⟩
  | .lst xs, _, ⟨a, vs, e1, n, t, r⟩ => ⟨a, vs, e1, ⟨n.1, fun hm => n.2 (List.mem_cons_of_mem _ hm)⟩, t, RepAs.show r⟩
  | .dct ks xs, _, ⟨a, ws, e1, n, t, ek, r⟩ => ⟨a, ws, e1, ⟨n.1, fun hm => n.2 (List.mem_cons_of_mem _ hm)⟩, t, ek, RepAs.show r⟩
  | .ref k, _, h => h
theorem RepAs.show {K : PySem.W.Frag} {α : Pl} {H : Hp} {p : Addr} : ∀ {xs : List M} {vs : List V}, RepAs K (α.hide p) H xs vs → RepAs K α H xs vs
  | [], _, h => h
  | x :: xs, _, ⟨v, r, e1, h1, h2⟩ => ⟨v, r, e1, RepA.show h1, RepAs.show h2⟩
end
mutual
theorem RepA.hw {K : PySem.W.Frag} {α : Pl} {H : Hp} {p : Addr} {u : HO} (hp : p ∈ α.g) : ∀ {m : M} {v : V}, RepA K α H m v → RepA K α (upd H p u) m v
  | .non, _, h => h
  | .bl _, _, h => h
  | .int _, _, h => h
  | .str _, _, h => h
  | .ty _, _, h => h
  | .tup xs, _, ⟨a, vs, e1, t, r⟩ => ⟨a, vs, e1, t.elim (fun ⟨q, n⟩ => .inl ⟨by
      have hn : a ≠ p := by intro z; subst z; exact n.2 hp
      rcases q with q | ⟨o, q⟩
      · exact .inl (by rw [upd_ne hn]; exact q)
      · exact .inr ⟨o, by rw [upd_ne hn]; exact q⟩, n⟩) .inr, RepAs.hw hp r⟩
  | .scr ns, _, ⟨a, e1, t⟩ => ⟨a, e1, t.elim (fun ⟨q, n⟩ => .inl ⟨by
      have hn : a ≠ p := by intro z; subst z; exact n.2 hp
      rcases q with q | ⟨o, q⟩
      · exact .inl (by rw [upd_ne hn]; exact q)
      · exact .inr ⟨o, by rw [upd_ne hn]; exact q⟩, n⟩) .inr⟩
  | .lst xs, _, ⟨a, vs, e1, n, t, r⟩ => ⟨a, vs, e1, n, by
      have hn : a ≠ p := by intro z; subst z; exact n.2 hp
      rw [upd_ne hn]; exact t, RepAs.hw hp r⟩
  | .dct ks xs, _, ⟨a, ws, e1, n, t, ek, r⟩ => ⟨a, ws, e1, n, by
      have hn : a ≠ p := by intro z; subst z; exact n.2 hp
      rcases t with t | ⟨o, t⟩
      · exact .inl (by rw [upd_ne hn]; exact t)
      · exact .inr ⟨o, by rw [upd_ne hn]; exact t⟩, ek, RepAs.hw hp r⟩
  | .ref k, _, h => h
theorem RepAs.hw {K : PySem.W.Frag} {α : Pl} {H : Hp} {p : Addr} {u : HO} (hp : p ∈ α.g) : ∀ {xs : List M} {vs : List V}, RepAs K α H xs vs → RepAs K α (upd H p u) xs vs
  | [], _, h => h
  | x :: xs, _, ⟨v, r, e1, h1, h2⟩ => ⟨v, r, e1, RepA.hw hp h1, RepAs.hw hp h2⟩
end
theorem Rl.hw {K : PySem.W.Frag} {α : Pl} {h : HpM} {H : Hp} {p : Addr} {u : HO} (r : Rl K α h H) (hp : p ∈ α.g) : Rl K α h (upd H p u) :=
  ⟨r.len, r.nd, r.ap, fun b hb => by
    by_cases z : b = p
    · subst z; exact ⟨_, upd_same⟩
    · obtain ⟨o, e⟩ := r.hid b hb
      exact ⟨o, by rw [upd_ne z]; exact e⟩, fun k a o hk ho => by
    have hn : a ≠ p := by intro z; subst z; exact r.ap _ (List.mem_of_getElem? hk) hp
    have q := r.obj k a o hk ho
    cases o with
    | lst xs => obtain ⟨vs, h1, h2⟩ := q; exact ⟨vs, by rw [upd_ne hn]; exact h1, h2.hw hp⟩
    | dct kvs => obtain ⟨ws, h1, h2, h3⟩ := q; exact ⟨ws, by rw [upd_ne hn]; exact h1, h2, h3.hw hp⟩⟩
theorem REnv.hw {K : PySem.W.Frag} {α : Pl} {H : Hp} {ρ : EnvM} {σ : St} {p : Addr} {u : HO} (r : REnv K α H ρ σ) (hp : p ∈ α.g) : REnv K α (upd H p u) ρ σ :=
  ⟨r.1, fun i m h => by obtain ⟨v, h1, h2⟩ := r.2 i m h; exact ⟨v, h1, h2.hw hp⟩⟩
theorem REnv.hide {K : PySem.W.Frag} {α : Pl} {H : Hp} {ρ : EnvM} {σ : St} {p : Addr} (r : REnv K α H ρ σ) (hp : H p = none) : REnv K (α.hide p) H ρ σ :=
  ⟨r.1, fun i m h => by obtain ⟨v, h1, h2⟩ := r.2 i m h; exact ⟨v, h1, h2.hide hp⟩⟩
theorem Rl.lay {K : PySem.W.Frag} {α : Pl} {h : HpM} {H : Hp} {p : Addr} {u : HO} (r : Rl K α h H) (hp : H p = none) : Rl K (α.hide p) h (upd H p u) :=
  have s : Same H (upd H p u) := same_new hp u
  ⟨r.len, r.nd, fun b hb hm => by
    rcases List.mem_cons.mp hm with z | z
    · subst z; exact r.newA hp hb
    · exact r.ap b hb z, fun b hb => by
    rcases List.mem_cons.mp hb with z | z
    · subst z; exact ⟨_, upd_same⟩
    · obtain ⟨o, e⟩ := r.hid b z
      exact ⟨o, s b o e⟩, fun k a o hk ho => by
    have q := r.obj k a o hk ho
    cases o with
    | lst xs => obtain ⟨vs, h1, h2⟩ := q; exact ⟨vs, s _ _ h1, (h2.hide hp).ev (.same s)⟩
    | dct kvs => obtain ⟨ws, h1, h2, h3⟩ := q; exact ⟨ws, s _ _ h1, h2, (h3.hide hp).ev (.same s)⟩⟩
theorem Rl.show {K : PySem.W.Frag} {α : Pl} {h : HpM} {H : Hp} {p : Addr} (r : Rl K (α.hide p) h H) : Rl K α h H :=
  ⟨r.len, r.nd, fun b hb hm => r.ap b hb (List.mem_cons_of_mem _ hm), fun b hb => r.hid b (List.mem_cons_of_mem _ hb), fun k a o hk ho => by
    have q := r.obj k a o hk ho
    cases o with
    | lst xs => obtain ⟨vs, h1, h2⟩ := q; exact ⟨vs, h1, h2.show⟩
    | dct kvs => obtain ⟨ws, h1, h2, h3⟩ := q; exact ⟨ws, h1, h2, h3.show⟩⟩

theorem Ev.unhide {α α' : Pl} {H H' : Hp} {p : Addr} (e : Ev (α.hide p) (α'.hide p) H H') : Ev α α' H H' :=
  ⟨⟨(List.cons.inj e.pre.1).2, e.pre.2⟩, fun b o h q n => e.keep b o h (q.imp id fun z => List.mem_cons_of_mem _ z) n, e.keepD, e.dom⟩
theorem Ev.hw {α α' : Pl} {H H' : Hp} {p : Addr} {u : HO} (e : Ev α α' H H') (hp : H p = none) : Ev α α' H (upd H' p u) :=
  ⟨e.pre, fun b o hb q n => by
    have z : b ≠ p := by intro z; subst z; rw [hp] at hb; cases hb
    rw [upd_ne z]; exact e.keep b o hb q n, fun b ws hb n => by
    have z : b ≠ p := by intro z; subst z; rw [hp] at hb; cases hb
    rcases e.keepD b ws hb n with r | ⟨o, r⟩
    · exact .inl (by rw [upd_ne z]; exact r)
    · exact .inr ⟨o, by rw [upd_ne z]; exact r⟩, fun b hb => by
    by_cases z : b = p
    · subst z; exact hp
    · rw [upd_ne z] at hb; exact e.dom b hb⟩

def tM (K : PySem.W.Frag) (m : FE) : TE := fun σ H Q => ∃ α ρ h d h', REnv K α H ρ σ ∧ Rl K α h H ∧ m ρ h = some (d, h') ∧ ∀ α' H' v, Ev α α' H H' → Rl K α' h' H' → RepA K α' H' d v → Q v H'
def aM (K : PySem.W.Frag) (m : FA) : TA := fun σ H Q => ∃ α ρ h d h', REnv K α H ρ σ ∧ Rl K α h H ∧ m ρ h = some (d, h') ∧ ∀ α' H' v, Ev α α' H H' → Rl K α' h' H' → RepAs K α' H' d v → Q v H'
def bM (K : PySem.W.Frag) (m : FT) : TT := fun σ H Q => ∃ α ρ h d h', REnv K α H ρ σ ∧ Rl K α h H ∧ m ρ h = some (d, h') ∧ ∀ α' H', Ev α α' H H' → Rl K α' h' H' → Q d H'
def Fin (K : PySem.W.Frag) (D : Ends) (α' : Pl) (H' : Hp) : Out → Prop
  | .nx ρ => ∀ σ, REnv K α' H' ρ σ → D.nx σ H'
  | .bk ρ => ∀ σ, REnv K α' H' ρ σ → D.bk σ H'
  | .ct ρ => ∀ σ, REnv K α' H' ρ σ → D.ct σ H'
  | .rt d => ∀ v, RepA K α' H' d v → D.rt v H'
def sM (K : PySem.W.Frag) (m : FS) : TS := fun D σ H => ∃ α ρ h o h', REnv K α H ρ σ ∧ Rl K α h H ∧ m ρ h = some (o, h') ∧ ∀ α' H', Ev α α' H H' → Rl K α' h' H' → Fin K D α' H' o
def gM (K : PySem.W.Frag) (m : FG) : TG := fun v σ H Q => ∃ α ρ h x ρ' h', REnv K α H ρ σ ∧ Rl K α h H ∧ RepA K α H x v ∧ m x ρ h = some (ρ', h') ∧ ∀ α' H' σ', Ev α α' H H' → Rl K α' h' H' → REnv K α' H' ρ' σ' → Q σ' H'
abbrev FGs := List M → EnvM → HpM → Option (EnvM × HpM)
def gsM (K : PySem.W.Frag) (m : FGs) : TGs := fun v σ H Q => ∃ α ρ h x ρ' h', REnv K α H ρ σ ∧ Rl K α h H ∧ RepAs K α H x v ∧ m x ρ h = some (ρ', h') ∧ ∀ α' H' σ', Ev α α' H H' → Rl K α' h' H' → REnv K α' H' ρ' σ' → Q σ' H'
def spM (K : PySem.W.Frag) (m : FF) : Sp := fun vs H Q _ => ∃ α h ds d h', RepAs K α H ds vs ∧ Rl K α h H ∧ m ds h = some (d, h') ∧ ∀ α' H' v, Ev α α' H H' → Rl K α' h' H' → RepA K α' H' d v → Q v H'
section
variable {X : Cx}
theorem PE.imp {e : Expr} {t t' : TE} (h : PE X e t) (i : ∀ σ H Q, t' σ H Q → t σ H Q) : PE X e t' := fun pins s σ H Q I q => h pins s σ H Q I (i σ H Q q)
theorem PT.imp {e : Expr} {t t' : TT} (h : PT X e t) (i : ∀ σ H Q, t' σ H Q → t σ H Q) : PT X e t' := fun pins s σ H Q I q => h pins s σ H Q I (i σ H Q q)
theorem PW.imp {e : Expr} {t t' : TT} (h : PW X e t) (i : ∀ σ H Q, t' σ H Q → t σ H Q) : PW X e t' := fun wh pins s σ H Q I q => h wh pins s σ H Q I (i σ H Q q)
theorem PA.imp {e : List Expr} {t t' : TA} (h : PA X e t) (i : ∀ σ H Q, t' σ H Q → t σ H Q) : PA X e t' := fun pos pins s σ H Q I q => h pos pins s σ H Q I (i σ H Q q)
theorem PS.imp {e : Stmt} {t t' : TS} (h : PS X e t) (i : ∀ D σ H, t' D σ H → t D σ H) : PS X e t' := fun pins s σ H D I q => h pins s σ H D I (i D σ H q)
theorem PSs.imp {e : List Stmt} {t t' : TS} (h : PSs X e t) (i : ∀ D σ H, t' D σ H → t D σ H) : PSs X e t' := fun pins s σ H D I q => h pins s σ H D I (i D σ H q)
theorem PG.imp {e : Expr} {t t' : TG} (h : PG X e t) (i : ∀ v σ H Q, t' v σ H Q → t v σ H Q) : PG X e t' := fun pins s σ H v u Q I r q => h pins s σ H v u Q I r (i v σ H Q q)
theorem PGs.imp {e : List Expr} {t t' : TGs} (h : PGs X e t) (i : ∀ v σ H Q, t' v σ H Q → t v σ H Q) : PGs X e t' := fun pins s σ H v u Q I r q => h pins s σ H v u Q I r (i v σ H Q q)
end
def bnd {a b : Type} (x : Option (a × HpM)) (f : a → HpM → Option b) : Option b := match x with | some (y, h) => f y h | none => none
theorem bnd_inv {a b : Type} {x : Option (a × HpM)} {f : a → HpM → Option b} {r : b} (e : bnd x f = some r) : ∃ y h, x = some (y, h) ∧ f y h = some r := by
  unfold bnd at e
  split at e
  · exact ⟨_, _, rfl, e⟩
  · cases e
end L2
set_option Elab.async false
set_option linter.all false
set_option maxRecDepth 100000
namespace L2
open PySem PySem.Spec PyProof.Rows
def mC (d : M) : FE := fun _ h => some (d, h)
def mVar (i : Nat) : FE := fun ρ h => match ρ[i]? with | some (some m) => some (m, h) | _ => none
def mNil : FA := fun _ h => some ([], h)
def mCons (a : FE) (r : FA) : FA := fun ρ h => bnd (a ρ h) fun x h1 => bnd (r ρ h1) fun xs h2 => some (x :: xs, h2)
def mTup (a : FA) : FE := fun ρ h => bnd (a ρ h) fun xs h1 => if xs.length ≤ 16777216 then some (.tup xs, h1) else none
def mLst (a : FA) : FE := fun ρ h => bnd (a ρ h) fun xs h1 => if xs.length ≤ 16777216 then some (.lst xs, h1) else none
def mLstH (a : FA) : FE := fun ρ h => bnd (a ρ h) fun xs h1 => if xs.length ≤ 16777216 then some (.ref h1.length, h1 ++ [.lst xs]) else none
def mOp (f : M → M → HpM → Option M) (a b : FE) : FE := fun ρ h => bnd (a ρ h) fun x h1 => bnd (b ρ h1) fun y h2 => (f x y h2).map (·, h2)
def mUn (f : M → HpM → Option M) (a : FE) : FE := fun ρ h => bnd (a ρ h) fun x h1 => (f x h1).map (·, h1)
def mCB (f : List M → HpM → Option M) (a : FA) : FE := fun ρ h => bnd (a ρ h) fun xs h1 => (f xs h1).map (·, h1)
def mCall (f : FF) (a : FA) : FE := fun ρ h => bnd (a ρ h) fun xs h1 => f xs h1
def mMt (ok : M → HpM → Bool) (f : M → List M → HpM → Option (M × HpM)) (o : FE) (a : FA) : FE := fun ρ h => bnd (o ρ h) fun x h1 => if ok x h1 = true then bnd (a ρ h1) fun xs h2 => f x xs h2 else none
def asB {a : Type} (x : M) (f : Bool → Option a) : Option a := match x with | .bl b => f b | _ => none
def mAnd (a b : FE) : FE := fun ρ h => bnd (a ρ h) fun x h1 => asB x fun c => if c = true then b ρ h1 else some (.bl false, h1)
def mOr (a b : FE) : FE := fun ρ h => bnd (a ρ h) fun x h1 => asB x fun c => if c = true then some (.bl true, h1) else b ρ h1
def mNot (a : FE) : FE := fun ρ h => bnd (a ρ h) fun x h1 => asB x fun c => some (.bl (!c), h1)
def mIf (c : FT) (a b : FE) : FE := fun ρ h => bnd (c ρ h) fun c h1 => if c = true then a ρ h1 else b ρ h1
def mChain (f g : M → M → HpM → Option M) (a b c : FE) : FE := fun ρ h => bnd (a ρ h) fun x h1 => bnd (b ρ h1) fun y h2 => (f x y h2).bind fun z => asB z fun k => if k = true then bnd (c ρ h2) fun w h3 => (g y w h3).map (·, h3) else some (.bl false, h2)
def tV (a : FE) : FT := fun ρ h => bnd (a ρ h) fun x h1 => asB x fun c => some (c, h1)
def tAndM (a b : FT) : FT := fun ρ h => bnd (a ρ h) fun c h1 => if c = true then b ρ h1 else some (false, h1)
def tOrM (a b : FT) : FT := fun ρ h => bnd (a ρ h) fun c h1 => if c = true then some (true, h1) else b ρ h1
def tNotM (a : FT) : FT := fun ρ h => bnd (a ρ h) fun c h1 => some (!c, h1)
theorem asB_inv {a : Type} {x : M} {f : Bool → Option a} {r : a} (e : asB x f = some r) : ∃ b, x = .bl b ∧ f b = some r := by
  cases x <;> first | exact ⟨_, rfl, e⟩ | cases e
theorem map_inv {a : Type} {x : Option a} {h : HpM} {r : a × HpM} (e : x.map (·, h) = some r) : x = some r.1 ∧ r.2 = h := by
  cases x with
  | none => cases e
  | some y => cases e; exact ⟨rfl, rfl⟩
def OpM (K : PySem.W.Frag) (r : R2) (f : M → M → HpM → Option M) : Prop := ∀ (α : Pl) (h : HpM) (H : Hp) (x y d : M) (u v : V) (Q : VK), Rl K α h H → RepA K α H x u → RepA K α H y v → f x y h = some d → (∀ H' w, Same H H' → RepA K α H' d w → Q w H') → r u v H Q
def CallM (K : PySem.W.Frag) (r : List V → Hp → VK → Prop) (f : List M → HpM → Option M) : Prop := ∀ (α : Pl) (h : HpM) (H : Hp) (xs : List M) (d : M) (us : List V) (Q : VK), Rl K α h H → RepAs K α H xs us → f xs h = some d → (∀ H' w, Same H H' → RepA K α H' d w → Q w H') → r us H Q
def MtA (K : PySem.W.Frag) (r : V → List V → Hp → VK → Prop) (f : M → List M → HpM → Option (M × HpM)) : Prop := ∀ (α : Pl) (h h' : HpM) (H : Hp) (x : M) (xs : List M) (d : M) (u : V) (us : List V) (Q : VK), Rl K α h H → RepA K α H x u → RepAs K α H xs us → f x xs h = some (d, h') →
  (∀ α' H' w, Ev α α' H H' → Rl K α' h' H' → RepA K α' H' d w → Q w H') → r u us H Q
section
variable {X : Cx} {a b c e : Expr} {es : List Expr} {ma mb mc me : FE} {mas : FA} {ta tb : FT} {pos p : Pos}
theorem me_C {v : V} {d : M} (h : PE X e (tC v)) (r : ∀ α H, RepA X.K α H d v) : PE X e (tM X.K (mC d)) := h.imp fun σ H Q ⟨α, ρ, h, d', h', hσ, hr, e, k⟩ => by
  cases e
  exact k α H v .refl hr (r α H)
theorem me_int {i j pos} : PE X (.Constant (.int i) j pos) (tM X.K (mC (.int i))) := me_C pe_int fun _ _ => rfl
theorem me_bl {b j pos} : PE X (.Constant (.bool b) j pos) (tM X.K (mC (.bl b))) := me_C pe_bl fun _ _ => rfl
theorem me_str {x j pos} : PE X (.Constant (.str x) j pos) (tM X.K (mC (.str x))) := me_C pe_str fun _ _ => rfl
theorem me_var {i : Nat} (h : PE X e (tVar i)) : PE X e (tM X.K (mVar i)) := h.imp fun σ H Q ⟨α, ρ, h, d', h', hσ, hr, e, k⟩ => by
  unfold mVar at e
  split at e
  · rename_i m em
    cases e
    obtain ⟨v, h1, h2⟩ := hσ.2 i _ em
    exact ⟨v, h1, k α H v .refl hr h2⟩
  · cases e
theorem ma_nil : PA X [] (aM X.K mNil) := pa_nil.imp fun σ H Q ⟨α, ρ, h, d', h', hσ, hr, e, k⟩ => by
  cases e
  exact k α H [] .refl hr rfl
theorem ma_cons (ha : PE X e (tM X.K ma)) (hr : PA X es (aM X.K mas)) (h : notStar e = true) : PA X (e :: es) (aM X.K (mCons ma mas)) := (pa_c ha hr h).imp fun σ H Q ⟨α, ρ, h, d', h', hσ, hr, e, k⟩ => by
  obtain ⟨x, h1, e1, e⟩ := bnd_inv e
  obtain ⟨xs, h2, e2, e⟩ := bnd_inv e
  cases e
  exact ⟨α, ρ, h, x, h1, hσ, hr, e1, fun α1 H1 u ev1 hr1 rx => ⟨α1, ρ, h1, xs, _, hσ.ev ev1, hr1, e2, fun α2 H2 us ev2 hr2 rs => k α2 H2 _ (ev1.trans ev2) hr2 ⟨u, us, rfl, rx.ev ev2, rs⟩⟩⟩
theorem me_tup {x1} (h : PA X es (aM X.K mas)) : PE X (.Tuple es x1 pos) (tM X.K (mTup mas)) := (pe_tup h).imp fun σ H Q ⟨α, ρ, h, d', h', hσ, hr, e, k⟩ => by
  obtain ⟨xs, h1, e1, e⟩ := bnd_inv e
  split at e
  · rename_i hl
    cases e
    refine ⟨α, ρ, h, xs, _, hσ, hr, e1, fun α1 H1 us ev1 hr1 rs => ⟨by rw [← rs.length, sizeLine_eq]; exact hl, fun p hp => ?_⟩⟩
    have s := same_new hp (.tup us)
    exact k α1 _ _ (ev1.trans (.same s)) (hr1.same s) ⟨p, us, rfl, .inl ⟨.inl upd_same, hr1.new hp⟩, rs.ev (.same s)⟩
  · cases e
theorem me_lst (h : PA X es (aM X.K mas)) : PE X (.List es pos) (tM X.K (mLst mas)) := (pe_lst h).imp fun σ H Q ⟨α, ρ, h, d', h', hσ, hr, e, k⟩ => by
  obtain ⟨xs, h1, e1, e⟩ := bnd_inv e
  split at e
  · rename_i hl
    cases e
    refine ⟨α, ρ, h, xs, _, hσ, hr, e1, fun α1 H1 us ev1 hr1 rs => ⟨by rw [← rs.length, sizeLine_eq]; exact hl, fun p hp => ?_⟩⟩
    have s := same_new hp (.lst us)
    exact k α1 _ _ (ev1.trans (.same s)) (hr1.same s) ⟨p, us, rfl, hr1.new hp, upd_same, rs.ev (.same s)⟩
  · cases e
theorem me_lstH (h : PA X es (aM X.K mas)) : PE X (.List es pos) (tM X.K (mLstH mas)) := (pe_lst h).imp fun σ H Q ⟨α, ρ, h, d', h', hσ, hr, e, k⟩ => by
  obtain ⟨xs, h1, e1, e⟩ := bnd_inv e
  split at e
  · rename_i hl
    cases e
    refine ⟨α, ρ, h, xs, h1, hσ, hr, e1, fun α1 H1 us ev1 hr1 rs => ⟨by rw [← rs.length, sizeLine_eq]; exact hl, fun p hp => ?_⟩⟩
    have ea : Ev α1 (α1.add p) H1 (upd H1 p (.lst us)) := .alloc hp
    exact k (α1.add p) _ _ (ev1.trans ea) (hr1.alloc hp ⟨us, upd_same, rs.ev ea⟩) ⟨p, by rw [← hr1.len]; simp [Pl.add], rfl⟩
  · cases e
theorem me_op {op : Operator} {r : R2} {f : M → M → HpM → Option M} (ho : OpR X (binaryOp op) r) (hf : OpM X.K r f) (ha : PE X a (tM X.K ma)) (hb : PE X b (tM X.K mb)) : PE X (.BinOp a op b pos) (tM X.K (mOp f ma mb)) := (pe_op ho ha hb).imp fun σ H Q ⟨α, ρ, h, d, h', hσ, hr, e, k⟩ => by
  obtain ⟨x, h1, e1, e⟩ := bnd_inv e
  obtain ⟨y, h2, e2, e⟩ := bnd_inv e
  obtain ⟨e3, e4⟩ := map_inv e
  dsimp only at e3 e4
  subst e4
  exact ⟨α, ρ, h, x, h1, hσ, hr, e1, fun α1 H1 u ev1 hr1 rx => ⟨α1, ρ, h1, y, _, hσ.ev ev1, hr1, e2, fun α2 H2 v ev2 hr2 ry =>
    hf α2 _ H2 x y d u v Q hr2 (rx.ev ev2) ry e3 fun H3 w s rw => k α2 H3 w ((ev1.trans ev2).trans (.same s)) (hr2.same s) rw⟩⟩
theorem me_cmp {op : CmpOp} {r : R2} {f : M → M → HpM → Option M} (ho : OpR X (compareOp op) r) (hf : OpM X.K r f) (ha : PE X a (tM X.K ma)) (hb : PE X b (tM X.K mb)) (hm : behindInMarks op b = false) : PE X (.Compare a [op] [b] pos) (tM X.K (mOp f ma mb)) := (pe_cmpR ho ha hb hm).imp fun σ H Q ⟨α, ρ, h, d, h', hσ, hr, e, k⟩ => by
  obtain ⟨x, h1, e1, e⟩ := bnd_inv e
  obtain ⟨y, h2, e2, e⟩ := bnd_inv e
  obtain ⟨e3, e4⟩ := map_inv e
  dsimp only at e3 e4
  subst e4
  exact ⟨α, ρ, h, x, h1, hσ, hr, e1, fun α1 H1 u ev1 hr1 rx => ⟨α1, ρ, h1, y, _, hσ.ev ev1, hr1, e2, fun α2 H2 v ev2 hr2 ry =>
    hf α2 _ H2 x y d u v Q hr2 (rx.ev ev2) ry e3 fun H3 w s rw => k α2 H3 w ((ev1.trans ev2).trans (.same s)) (hr2.same s) rw⟩⟩
theorem mt_cmp {op : CmpOp} {r : R2} {f : M → M → HpM → Option M} (ho : OpR X (compareOp op) r) (hf : OpM X.K r f) (ha : PE X a (tM X.K ma)) (hb : PE X b (tM X.K mb)) (hm : behindInMarks op b = false) : PT X (.Compare a [op] [b] pos) (bM X.K (tV (mOp f ma mb))) := (pt_cmpR ho ha hb hm).imp fun σ H Q ⟨α, ρ, h, d, h', hσ, hr, e, k⟩ => by
  obtain ⟨z, h0, e0, e⟩ := bnd_inv e
  obtain ⟨q, rfl, e⟩ := asB_inv e
  cases e
  obtain ⟨x, h1, e1, e⟩ := bnd_inv e0
  obtain ⟨y, h2, e2, e⟩ := bnd_inv e
  obtain ⟨e3, e4⟩ := map_inv e
  dsimp only at e3 e4
  subst e4
  exact ⟨α, ρ, h, x, h1, hσ, hr, e1, fun α1 H1 u ev1 hr1 rx => ⟨α1, ρ, h1, y, _, hσ.ev ev1, hr1, e2, fun α2 H2 v ev2 hr2 ry =>
    hf α2 _ H2 x y _ u v _ hr2 (rx.ev ev2) ry e3 fun H3 w s rw => ⟨d, rw, k α2 H3 ((ev1.trans ev2).trans (.same s)) (hr2.same s)⟩⟩⟩
theorem me_chain {op op' : CmpOp} {r r' : R2} {f f' : M → M → HpM → Option M} (ho : OpR X (compareOp op) r) (hf : OpM X.K r f) (ho' : OpR X (compareOp op') r') (hf' : OpM X.K r' f') (ha : PE X a (tM X.K ma)) (hb : PE X b (tM X.K mb)) (hc : PE X c (tM X.K mc)) (hm : lastMarks [op, op'] [b, c] = false) :
    PE X (.Compare a [op, op'] [b, c] pos) (tM X.K (mChain f f' ma mb mc)) := (pe_chain ho ho' ha hb hc hm).imp fun σ H Q ⟨α, ρ, h, d, h', hσ, hr, e, k⟩ => by
  obtain ⟨x, h1, e1, e⟩ := bnd_inv e
  obtain ⟨y, h2, e2, e⟩ := bnd_inv e
  obtain ⟨z, e3, e⟩ := Option.bind_eq_some_iff.mp e
  obtain ⟨q, rfl, e⟩ := asB_inv e
  refine ⟨α, ρ, h, x, h1, hσ, hr, e1, fun α1 H1 u ev1 hr1 rx => ⟨α1, ρ, h1, y, h2, hσ.ev ev1, hr1, e2, fun α2 H2 v ev2 hr2 ry =>
    hf α2 _ H2 x y _ u v _ hr2 (rx.ev ev2) ry e3 fun H3 w s rw => ⟨q, rw, ?_⟩⟩⟩
  have hr3 := hr2.same s
  have ev3 := (ev1.trans ev2).trans (Ev.same (α := α2) s)
  cases q with
  | false => cases e; exact k α2 H3 _ ev3 hr3 rfl
  | true =>
    obtain ⟨w', h4, e4, e⟩ := bnd_inv e
    obtain ⟨e5, e6⟩ := map_inv e
    dsimp only at e5 e6
    subst e6
    exact ⟨α2, ρ, h2, w', _, hσ.ev ev3, hr3, e4, fun α4 H4 v4 ev4 hr4 r4 => hf' α4 _ H4 y w' _ v v4 _ hr4 ((ry.ev (.same s)).ev ev4) r4 e5 fun H5 w5 s5 r5 => k α4 H5 w5 ((ev3.trans ev4).trans (.same s5)) (hr4.same s5) r5⟩
theorem mt_val {t : FE} (h : PE X e (tM X.K t)) (he : ∀ whole, isTrue e X.env whole = (do let v ← whole; standAt e.pos; holding [v] (truthy v))) : PT X e (bM X.K (tV t)) := (pt_val h he).imp fun σ H Q ⟨α, ρ, h, d, h', hσ, hr, e, k⟩ => by
  obtain ⟨z, h0, e0, e⟩ := bnd_inv e
  obtain ⟨q, rfl, e⟩ := asB_inv e
  cases e
  exact ⟨α, ρ, h, _, _, hσ, hr, e0, fun α1 H1 u ev1 hr1 rx => ⟨d, rx, k α1 H1 ev1 hr1⟩⟩
theorem mt_chain {op op' : CmpOp} {r r' : R2} {f f' : M → M → HpM → Option M} (ho : OpR X (compareOp op) r) (hf : OpM X.K r f) (ho' : OpR X (compareOp op') r') (hf' : OpM X.K r' f') (ha : PE X a (tM X.K ma)) (hb : PE X b (tM X.K mb)) (hc : PE X c (tM X.K mc)) (hm : lastMarks [op, op'] [b, c] = false) :
    PT X (.Compare a [op, op'] [b, c] pos) (bM X.K (tV (mChain f f' ma mb mc))) := (pt_chain ho ho' ha hb hc hm).imp fun σ H Q ⟨α, ρ, h, d, h', hσ, hr, e, k⟩ => by
  obtain ⟨z, h0, e0, e'⟩ := bnd_inv e
  obtain ⟨q0, rfl, e'⟩ := asB_inv e'
  cases e'
  obtain ⟨x, h1, e1, e⟩ := bnd_inv e0
  obtain ⟨y, h2, e2, e⟩ := bnd_inv e
  obtain ⟨z, e3, e⟩ := Option.bind_eq_some_iff.mp e
  obtain ⟨q, rfl, e⟩ := asB_inv e
  refine ⟨α, ρ, h, x, h1, hσ, hr, e1, fun α1 H1 u ev1 hr1 rx => ⟨α1, ρ, h1, y, h2, hσ.ev ev1, hr1, e2, fun α2 H2 v ev2 hr2 ry =>
    hf α2 _ H2 x y _ u v _ hr2 (rx.ev ev2) ry e3 fun H3 w s rw => ⟨q, rw, ?_⟩⟩⟩
  have hr3 := hr2.same s
  have ev3 := (ev1.trans ev2).trans (Ev.same (α := α2) s)
  cases q with
  | false => cases e; exact ⟨false, rfl, k α2 H3 ev3 hr3⟩
  | true =>
    obtain ⟨w', h4, e4, e⟩ := bnd_inv e
    obtain ⟨e5, e6⟩ := map_inv e
    dsimp only at e5 e6
    subst e6
    exact ⟨α2, ρ, h2, w', _, hσ.ev ev3, hr3, e4, fun α4 H4 v4 ev4 hr4 r4 => hf' α4 _ H4 y w' _ v v4 _ hr4 ((ry.ev (.same s)).ev ev4) r4 e5 fun H5 w5 s5 r5 => ⟨d, r5, k α4 H5 ((ev3.trans ev4).trans (.same s5)) (hr4.same s5)⟩⟩
theorem mw_and1 (ha : PT X a (bM X.K ta)) : PW X (.BoolOp .And [a] pos) (bM X.K ta) := pw_and1 ha
theorem mw_or1 (ha : PT X a (bM X.K ta)) : PW X (.BoolOp .Or [a] pos) (bM X.K ta) := pw_or1 ha
theorem mw_and {rest : List Expr} (ha : PT X a (bM X.K ta)) (hb : PW X (.BoolOp .And (b :: rest) pos) (bM X.K tb)) : PW X (.BoolOp .And (a :: b :: rest) pos) (bM X.K (tAndM ta tb)) := (pw_and ha hb).imp fun σ H Q ⟨α, ρ, h, d, h', hσ, hr, e, k⟩ => by
  obtain ⟨z, h0, e0, e⟩ := bnd_inv e
  refine ⟨α, ρ, h, z, h0, hσ, hr, e0, fun α1 H1 ev1 hr1 => ?_⟩
  cases z with
  | false => cases e; exact k α1 H1 ev1 hr1
  | true => exact ⟨α1, ρ, h0, d, h', hσ.ev ev1, hr1, e, fun α2 H2 ev2 hr2 => k α2 H2 (ev1.trans ev2) hr2⟩
theorem mw_or {rest : List Expr} (ha : PT X a (bM X.K ta)) (hb : PW X (.BoolOp .Or (b :: rest) pos) (bM X.K tb)) : PW X (.BoolOp .Or (a :: b :: rest) pos) (bM X.K (tOrM ta tb)) := (pw_or ha hb).imp fun σ H Q ⟨α, ρ, h, d, h', hσ, hr, e, k⟩ => by
  obtain ⟨z, h0, e0, e⟩ := bnd_inv e
  refine ⟨α, ρ, h, z, h0, hσ, hr, e0, fun α1 H1 ev1 hr1 => ?_⟩
  cases z with
  | true => cases e; exact k α1 H1 ev1 hr1
  | false => exact ⟨α1, ρ, h0, d, h', hσ.ev ev1, hr1, e, fun α2 H2 ev2 hr2 => k α2 H2 (ev1.trans ev2) hr2⟩
theorem mt_not (ha : PT X a (bM X.K ta)) : PT X (.UnaryOp .Not a pos) (bM X.K (tNotM ta)) := (pt_not ha).imp fun σ H Q ⟨α, ρ, h, d, h', hσ, hr, e, k⟩ => by
  obtain ⟨z, h0, e0, e⟩ := bnd_inv e
  cases e
  exact ⟨α, ρ, h, z, _, hσ, hr, e0, fun α1 H1 ev1 hr1 => k α1 H1 ev1 hr1⟩
theorem me_one {op} (h : PE X a (tM X.K ma)) : PE X (.BoolOp op [a] pos) (tM X.K ma) := pe_one h
theorem me_and {rest : List Expr} (ha : PE X a (tM X.K ma)) (hb : PE X (.BoolOp .And (b :: rest) pos) (tM X.K mb)) : PE X (.BoolOp .And (a :: b :: rest) pos) (tM X.K (mAnd ma mb)) := (pe_and ha hb).imp fun σ H Q ⟨α, ρ, h, d, h', hσ, hr, e, k⟩ => by
  obtain ⟨z, h0, e0, e⟩ := bnd_inv e
  obtain ⟨q, rfl, e⟩ := asB_inv e
  refine ⟨α, ρ, h, _, h0, hσ, hr, e0, fun α1 H1 u ev1 hr1 ru => ⟨q, ru, ?_⟩⟩
  cases q with
  | false => cases e; exact k α1 H1 _ ev1 hr1 rfl
  | true => exact ⟨α1, ρ, h0, d, h', hσ.ev ev1, hr1, e, fun α2 H2 w ev2 hr2 rw => k α2 H2 w (ev1.trans ev2) hr2 rw⟩
theorem me_or {rest : List Expr} (ha : PE X a (tM X.K ma)) (hb : PE X (.BoolOp .Or (b :: rest) pos) (tM X.K mb)) : PE X (.BoolOp .Or (a :: b :: rest) pos) (tM X.K (mOr ma mb)) := (pe_or ha hb).imp fun σ H Q ⟨α, ρ, h, d, h', hσ, hr, e, k⟩ => by
  obtain ⟨z, h0, e0, e⟩ := bnd_inv e
  obtain ⟨q, rfl, e⟩ := asB_inv e
  refine ⟨α, ρ, h, _, h0, hσ, hr, e0, fun α1 H1 u ev1 hr1 ru => ⟨q, ru, ?_⟩⟩
  cases q with
  | true => cases e; exact k α1 H1 _ ev1 hr1 rfl
  | false => exact ⟨α1, ρ, h0, d, h', hσ.ev ev1, hr1, e, fun α2 H2 w ev2 hr2 rw => k α2 H2 w (ev1.trans ev2) hr2 rw⟩
theorem me_not (ha : PE X a (tM X.K ma)) : PE X (.UnaryOp .Not a pos) (tM X.K (mNot ma)) := (pe_not ha).imp fun σ H Q ⟨α, ρ, h, d, h', hσ, hr, e, k⟩ => by
  obtain ⟨z, h0, e0, e⟩ := bnd_inv e
  obtain ⟨q, rfl, e⟩ := asB_inv e
  cases e
  exact ⟨α, ρ, h, _, _, hσ, hr, e0, fun α1 H1 u ev1 hr1 ru => ⟨q, ru, k α1 H1 _ ev1 hr1 rfl⟩⟩
theorem me_if (hc : PT X c (bM X.K ta)) (ha : PE X a (tM X.K ma)) (hb : PE X b (tM X.K mb)) : PE X (.IfExp c a b pos) (tM X.K (mIf ta ma mb)) := (pe_ifExp hc ha hb).imp fun σ H Q ⟨α, ρ, h, d, h', hσ, hr, e, k⟩ => by
  obtain ⟨z, h0, e0, e⟩ := bnd_inv e
  refine ⟨α, ρ, h, z, h0, hσ, hr, e0, fun α1 H1 ev1 hr1 => ?_⟩
  cases z with
  | true => exact ⟨α1, ρ, h0, d, h', hσ.ev ev1, hr1, e, fun α2 H2 w ev2 hr2 rw => k α2 H2 w (ev1.trans ev2) hr2 rw⟩
  | false => exact ⟨α1, ρ, h0, d, h', hσ.ev ev1, hr1, e, fun α2 H2 w ev2 hr2 rw => k α2 H2 w (ev1.trans ev2) hr2 rw⟩
section
variable {CX : CXT} {n : Nat} {f : Addr} {fd : FuncData} {ps : List Str} {m : FF} {E : XK} {id T : String} {r : List V → Hp → VK → Prop} {g : List M → HpM → Option M} {x : Str}
theorem me_call (F : FnOk X.prog X.w X.K X.mg X.base CX n f fd ps (spM X.K m)) (hr : Room n X.A) (q : NmOk X.env.scope x .globalImplicit) (hm : X.mg x = some (.ref f)) (hk : PySem.W.keepIn X.K (.ref f) = true) (hb : Binds X.K fd ps []) (hx : Passes CX X E)
    (ha : PA X (e :: es) (aM X.K mas)) (he : notStar e = true) (hpl : (backTo pos (starEach es X.env)).any (·.1) = false) : PE X (.Call (.Name x p) (e :: es) [] pos) (tM X.K (mCall m mas)) :=
  (pe_callk F hr q hm hk hb .nil hx ha he hpl).imp fun σ H Q ⟨α, ρ, h, d, h', hσ, hr, e, k⟩ => by
  obtain ⟨xs, h0, e0, e⟩ := bnd_inv e
  exact ⟨α, ρ, h, xs, h0, hσ, hr, e0, fun α1 H1 us ev1 hr1 rs => ⟨α1, h0, xs, d, h', by rw [List.append_nil]; exact rs, hr1, e, fun α2 H2 w ev2 hr2 rw => k α2 H2 w (ev1.trans ev2) hr2 rw⟩⟩
theorem me_CB (hc : CallR X (.builtin id) r) (hg : CallM X.K r g) (q : NmOk X.env.scope x .globalImplicit) (hm : X.mg x = none) (hv : bootBuiltins x = some (.builtin id)) (ha : PA X (e :: es) (aM X.K mas)) (he : notStar e = true) (hpl : (backTo pos (starEach es X.env)).any (·.1) = false) :
    PE X (.Call (.Name x p) (e :: es) [] pos) (tM X.K (mCB g mas)) := (pe_callBk hc q hm hv ha he hpl).imp fun σ H Q ⟨α, ρ, h, d, h', hσ, hr, e, k⟩ => by
  obtain ⟨xs, h0, e0, e⟩ := bnd_inv e
  obtain ⟨e5, e6⟩ := map_inv e
  dsimp only at e5 e6
  subst e6
  exact ⟨α, ρ, h, xs, _, hσ, hr, e0, fun α1 H1 us ev1 hr1 rs => hg α1 _ H1 xs d us Q hr1 rs e5 fun H2 w s rw => k α1 H2 w (ev1.trans (.same s)) (hr1.same s) rw⟩
theorem me_CTy (hc : CallR X (.type T) r) (hg : CallM X.K r g) (q : NmOk X.env.scope x .globalImplicit) (hm : X.mg x = none) (hv : bootBuiltins x = some (.type T)) (ha : PA X (e :: es) (aM X.K mas)) (he : notStar e = true) (hpl : (backTo pos (starEach es X.env)).any (·.1) = false) :
    PE X (.Call (.Name x p) (e :: es) [] pos) (tM X.K (mCB g mas)) := (pe_callTyk hc q hm hv ha he hpl).imp fun σ H Q ⟨α, ρ, h, d, h', hσ, hr, e, k⟩ => by
  obtain ⟨xs, h0, e0, e⟩ := bnd_inv e
  obtain ⟨e5, e6⟩ := map_inv e
  dsimp only at e5 e6
  subst e6
  exact ⟨α, ρ, h, xs, _, hσ, hr, e0, fun α1 H1 us ev1 hr1 rs => hg α1 _ H1 xs d us Q hr1 rs e5 fun H2 w s rw => k α1 H2 w (ev1.trans (.same s)) (hr1.same s) rw⟩
end
section
variable {o : Expr} {mo : FE} {name : Str} {apos cpos : Pos} {T id : String} {r : V → List V → Hp → VK → Prop} {ok : M → HpM → Bool} {f : M → List M → HpM → Option (M × HpM)}
theorem me_bm (pa : PlainAttrs T) (slot : Slot T name id) (hty : typeOf (.builtin id) = pure (.type "method_descriptor")) (hm : MtR X id r) (hok : ∀ α h H x v, Rl X.K α h H → RepA X.K α H x v → ok x h = true → tyV X.K T v H) (hf : MtA X.K r f)
    (ho : PE X o (tM X.K mo)) (ha : PA X (e :: es) (aM X.K mas)) (hbase : attributeBase o name X.env (eval o X.env) = eval o X.env)
    (hfew : ((backTo cpos (starEach (e :: es) X.env)).all (fun x => !x.1) && (backToKw cpos (keywordEach [] X.env)).all (fun x => x.1.isSome)
      && decide ((e :: es).length + ([] : List Keyword).length + (if ([] : List Keyword).isEmpty then 0 else 1) < 30)) = true)
    (hline : (apos.endLine == cpos.line) = true) (hs : starEach (e :: es) X.env = (false, eval e X.env) :: starEach es X.env) (hplain : (backTo cpos (starEach es X.env)).any (·.1) = false) :
    PE X (.Call (.Attribute o name apos) (e :: es) [] cpos) (tM X.K (mMt ok f mo mas)) := (pe_bm pa slot hty hm ho ha hbase hfew hline hs hplain).imp fun σ H Q ⟨α, ρ, h, d, h', hσ, hr, e, k⟩ => by
  obtain ⟨x, h0, e0, e⟩ := bnd_inv e
  split at e
  · rename_i hk
    obtain ⟨xs, h1, e1, e⟩ := bnd_inv e
    exact ⟨α, ρ, h, x, h0, hσ, hr, e0, fun α1 H1 u ev1 hr1 ru => ⟨hok α1 h0 H1 x u hr1 ru hk, α1, ρ, h0, xs, h1, hσ.ev ev1, hr1, e1, fun α2 H2 us ev2 hr2 rs =>
      hf α2 h1 h' H2 x xs d u us Q hr2 (ru.ev ev2) rs e fun α3 H3 w ev3 hr3 rw => k α3 H3 w ((ev1.trans ev2).trans ev3) hr3 rw⟩⟩
  · cases e
end
theorem me_ix {r : R2} {f : M → M → HpM → Option M} (ho : IxR X r) (hf : OpM X.K r f) (ha : PE X a (tM X.K ma)) (hb : PE X b (tM X.K mb)) (hs : PlainIx b) : PE X (.Subscript a b pos) (tM X.K (mOp f ma mb)) := (pe_ix ho ha hb hs).imp fun σ H Q ⟨α, ρ, h, d, h', hσ, hr, e, k⟩ => by
  obtain ⟨x, h1, e1, e⟩ := bnd_inv e
  obtain ⟨y, h2, e2, e⟩ := bnd_inv e
  obtain ⟨e3, e4⟩ := map_inv e
  dsimp only at e3 e4
  subst e4
  exact ⟨α, ρ, h, x, h1, hσ, hr, e1, fun α1 H1 u ev1 hr1 rx => ⟨α1, ρ, h1, y, _, hσ.ev ev1, hr1, e2, fun α2 H2 v ev2 hr2 ry =>
    hf α2 _ H2 x y d u v Q hr2 (rx.ev ev2) ry e3 fun H3 w s rw => k α2 H3 w ((ev1.trans ev2).trans (.same s)) (hr2.same s) rw⟩⟩
abbrev FO := EnvM → HpM → Option (Option Int × HpM)
def oM (K : PySem.W.Frag) (m : FO) : TO := fun σ H Q => ∃ α ρ h d h', REnv K α H ρ σ ∧ Rl K α h H ∧ m ρ h = some (d, h') ∧ ∀ α' H', Ev α α' H H' → Rl K α' h' H' → Q d H'
def oNo : FO := fun _ h => some (none, h)
def oSome (a : FE) : FO := fun ρ h => bnd (a ρ h) fun x h1 => match x with | .int i => some (some i, h1) | _ => none
theorem PO.imp {e : Option Expr} {t t' : TO} (h : PO X e t) (i : ∀ σ H Q, t' σ H Q → t σ H Q) : PO X e t' := fun pins s σ H Q I q => h pins s σ H Q I (i σ H Q q)
theorem mo_none : PO X none (oM X.K oNo) := po_none.imp fun σ H Q ⟨α, ρ, h, d, h', hσ, hr, e, k⟩ => by
  cases e
  exact k α H .refl hr
theorem mo_some (ha : PE X a (tM X.K ma)) : PO X (some a) (oM X.K (oSome ma)) := (po_some ha).imp fun σ H Q ⟨α, ρ, h, d, h', hσ, hr, e, k⟩ => by
  obtain ⟨x, h1, e1, e⟩ := bnd_inv e
  split at e
  · cases e
    exact ⟨α, ρ, h, _, _, hσ, hr, e1, fun α1 H1 u ev1 hr1 ru => ⟨_, ru, k α1 H1 ev1 hr1⟩⟩
  · cases e
def SlM (K : PySem.W.Frag) (r : V → Option Int → Option Int → Hp → VK → Prop) (f : M → Option Int → Option Int → HpM → Option M) : Prop := ∀ (α : Pl) (h : HpM) (H : Hp) (x d : M) (lo hi : Option Int) (u : V) (Q : VK), Rl K α h H → RepA K α H x u → f x lo hi h = some d → (∀ H' w, Same H H' → RepA K α H' d w → Q w H') → r u lo hi H Q
def mSl (f : M → Option Int → Option Int → HpM → Option M) (a : FE) (lo hi : FO) : FE := fun ρ h => bnd (a ρ h) fun x h1 => bnd (lo ρ h1) fun l h2 => bnd (hi ρ h2) fun u h3 => (f x l u h3).map (·, h3)
theorem me_slice {lo hi : Option Expr} {p2 : Pos} {r : V → Option Int → Option Int → Hp → VK → Prop} {f : M → Option Int → Option Int → HpM → Option M} {ml mh : FO} (hr : SlR X r) (hf : SlM X.K r f) (he : PE X a (tM X.K ma)) (hl : PO X lo (oM X.K ml)) (hu : PO X hi (oM X.K mh)) :
    PE X (.Subscript a (.Slice lo hi none p2) pos) (tM X.K (mSl f ma ml mh)) := (pe_slice hr he hl hu).imp fun σ H Q ⟨α, ρ, h, d, h', hσ, hr, e, k⟩ => by
  obtain ⟨x, h1, e1, e⟩ := bnd_inv e
  obtain ⟨l, h2, e2, e⟩ := bnd_inv e
  obtain ⟨u, h3, e3, e⟩ := bnd_inv e
  obtain ⟨e5, e6⟩ := map_inv e
  dsimp only at e5 e6
  subst e6
  exact ⟨α, ρ, h, x, h1, hσ, hr, e1, fun α1 H1 v ev1 hr1 rx => ⟨α1, ρ, h1, l, h2, hσ.ev ev1, hr1, e2, fun α2 H2 ev2 hr2 => ⟨α2, ρ, h2, u, _, hσ.ev (ev1.trans ev2), hr2, e3, fun α3 H3 ev3 hr3 =>
    hf α3 _ H3 x d l u v Q hr3 ((rx.ev ev2).ev ev3) e5 fun H4 w s rw => k α3 H4 w (((ev1.trans ev2).trans ev3).trans (.same s)) (hr3.same s) rw⟩⟩⟩
end
end L2
set_option Elab.async false
set_option linter.all false
set_option maxRecDepth 100000
namespace L2
open PySem PySem.Spec PyProof.Rows
def sNext : FS := fun ρ h => some (.nx ρ, h)
def sRet (a : FE) : FS := fun ρ h => bnd (a ρ h) fun x h1 => some (.rt x, h1)
def sSeq (a b : FS) : FS := fun ρ h => bnd (a ρ h) fun o h1 => match o with | .nx ρ' => b ρ' h1 | o => some (o, h1)
def sIf (c : FT) (a b : FS) : FS := fun ρ h => bnd (c ρ h) fun c h1 => if c = true then a ρ h1 else b ρ h1
def gNm (i : Nat) : FG := fun x ρ h => some (ρ.set i (some x), h)
def gsNil : FGs := fun xs ρ h => match xs with | [] => some (ρ, h) | _ => none
def gsCons (g : FG) (gs : FGs) : FGs := fun xs ρ h => match xs with | x :: r => bnd (g x ρ h) fun ρ' h' => gs r ρ' h' | [] => none
def gTp (n : Nat) (gs : FGs) : FG := fun x ρ h => match x with | .tup xs => if xs.length = n then gs xs ρ h else none | _ => none
def sAsg (a : FE) (g : FG) : FS := fun ρ h => bnd (a ρ h) fun x h1 => bnd (g x ρ h1) fun ρ' h2 => some (.nx ρ', h2)
abbrev FI := EnvM → HpM → Option ((List M × Option Nat) × HpM)
def okS (xs : List M) (k : Option Nat) (h : HpM) : Prop := match k with | none => True | some k => h[k]? = some (.lst xs)
section
open Classical
noncomputable def mLoop (xs : List M) (k : Option Nat) (b : M → FS) : List M → EnvM → HpM → Option (Out × HpM)
  | [], ρ, h => if okS xs k h then some (.nx ρ, h) else none
  | x :: r, ρ, h => if okS xs k h then bnd (b x ρ h) fun o h1 => match o with
      | .nx ρ' => mLoop xs k b r ρ' h1
      | .ct ρ' => mLoop xs k b r ρ' h1
      | .bk ρ' => some (.nx ρ', h1)
      | .rt d => some (.rt d, h1)
    else none
noncomputable def mComps (xs : List M) (k : Option Nat) (g : FG) (c : FT) (e : FE) (τ : EnvM) : List M → HpM → Option (List M × HpM)
  | [], h => if okS xs k h then some ([], h) else none
  | x :: r, h => if okS xs k h then bnd (g x τ h) fun τ' h1 => bnd (c τ' h1) fun t h2 => if t = true then bnd (e τ' h2) fun y h3 => bnd (mComps xs k g c e τ r h3) fun ys h4 => some (y :: ys, h4) else mComps xs k g c e τ r h2
    else none
end
noncomputable def sFor (i : FI) (g : FG) (b : FS) : FS := fun ρ h => bnd (i ρ h) fun s h1 => mLoop s.1 s.2 (fun x ρ h => bnd (g x ρ h) fun ρ' h' => b ρ' h') s.1 ρ h1
def tauM (ix : List (Option Nat)) (ρ : EnvM) : EnvM := ix.map fun o => match o with | none => none | some j => (ρ[j]?).join
noncomputable def mComp (ix : List (Option Nat)) (i : FI) (g : FG) (c : FT) (e : FE) : FE := fun ρ h => bnd (i ρ h) fun s h1 => if s.1.length ≤ 16777216 then bnd (mComps s.1 s.2 g c e (tauM ix ρ) s.1 h1) fun ys h2 => some (.lst ys, h2) else none
def Wk (K : PySem.W.Frag) (α : Pl) (H : Hp) (xs : List M) (k : Option Nat) (J : It) : Prop := ∀ γ : List Addr, (∀ b ∈ γ, H b = none) → ∀ α1 h1 H1, Ev ⟨α.a, γ ++ α.g⟩ α1 H H1 → Rl K α1 h1 H1 → okS xs k h1 → ∀ i : Nat,
  (∀ x, xs[i]? = some x → J.go i H1 ∧ ∀ v H2, J.yld i H1 v H2 → Same H1 H2 ∧ RepA K α1 H2 x v) ∧ (i = xs.length → J.stop i H1)
def iM (K : PySem.W.Frag) (m : FI) : TI := fun σ H R => ∃ α ρ h s h', REnv K α H ρ σ ∧ Rl K α h H ∧ m ρ h = some (s, h') ∧ ∀ α' H' J, Ev α α' H H' → Rl K α' h' H' → Wk K α' H' s.1 s.2 J → R J H'
theorem REnv.set {K : PySem.W.Frag} {α : Pl} {H : Hp} {ρ : EnvM} {σ : St} {i : Nat} {x : M} {v : V} (r : REnv K α H ρ σ) (hx : RepA K α H x v) : REnv K α H (ρ.set i (some x)) (σ.set i (some v)) := by
  refine ⟨by simp [r.1], fun j m hj => ?_⟩
  by_cases e : i = j
  · subst e
    have hl : i < ρ.length := by have := (List.getElem?_eq_some_iff.mp hj).1; simpa using this
    rw [List.getElem?_set_self hl] at hj
    cases hj
    exact ⟨v, by rw [List.getElem?_set_self (by rw [← r.1]; exact hl)], hx⟩
  · rw [List.getElem?_set_ne e] at hj
    obtain ⟨w, h1, h2⟩ := r.2 j m hj
    exact ⟨w, by rw [List.getElem?_set_ne e]; exact h1, h2⟩
theorem REnv.tau {K : PySem.W.Frag} {α : Pl} {H : Hp} {ρ : EnvM} {σ : St} {ix : List (Option Nat)} (r : REnv K α H ρ σ) : REnv K α H (tauM ix ρ) (tau ix σ) := by
  refine ⟨by simp [tauM, L2.tau], fun j m hj => ?_⟩
  unfold tauM at hj
  rw [List.getElem?_map] at hj
  cases e : ix[j]? with
  | none => rw [e] at hj; cases hj
  | some o =>
    rw [e] at hj
    cases o with
    | none => cases hj
    | some q =>
      have hj' : (ρ[q]?).join = some m := Option.some.inj hj
      have hq : ρ[q]? = some (some m) := by
        cases e2 : ρ[q]? with
        | none => rw [e2] at hj'; cases hj'
        | some z => rw [e2] at hj'; exact congrArg some hj'
      obtain ⟨v, h1, h2⟩ := r.2 q m hq
      refine ⟨v, ?_, h2⟩
      unfold L2.tau
      rw [List.getElem?_map, e]
      show some (σ[q]?).join = _
      rw [h1]
      rfl
section
variable {X : Cx} {a b c e o : Expr} {es : List Expr} {ma mb mc me : FE} {mas : FA} {tc : FT} {st : Stmt} {rest : List Stmt} {ms mr : FS} {g : FG} {gs : FGs} {pos p : Pos}
theorem mss_nil : PSs X [] (sM X.K sNext) := pss_nil.imp fun D σ H ⟨α, ρ, h, d, h', hσ, hr, e, k⟩ => by
  cases e
  exact k α H .refl hr σ hσ
theorem mss_one (h : PS X st (sM X.K ms)) : PSs X [st] (sM X.K ms) := pss_one h
theorem mss_cons (h1 : PS X st (sM X.K ms)) (h2 : PSs X rest (sM X.K mr)) : PSs X (st :: rest) (sM X.K (sSeq ms mr)) := (pss_cons h1 h2).imp fun D σ H ⟨α, ρ, h, d, h', hσ, hr, e, k⟩ => by
  obtain ⟨o, h1, e1, e⟩ := bnd_inv e
  refine ⟨α, ρ, h, o, h1, hσ, hr, e1, fun α1 H1 ev1 hr1 => ?_⟩
  cases o with
  | nx ρ' => exact fun σ' hσ' => ⟨α1, ρ', h1, d, h', hσ', hr1, e, fun α2 H2 ev2 hr2 => k α2 H2 (ev1.trans ev2) hr2⟩
  | bk ρ' => cases e; exact k α1 H1 ev1 hr1
  | ct ρ' => cases e; exact k α1 H1 ev1 hr1
  | rt x => cases e; exact k α1 H1 ev1 hr1
theorem ms_ret (he : PE X e (tM X.K me)) : PS X (.Return (some e) pos) (sM X.K (sRet me)) := (ps_ret he).imp fun D σ H ⟨α, ρ, h, d, h', hσ, hr, e, k⟩ => by
  obtain ⟨x, h1, e1, e⟩ := bnd_inv e
  cases e
  exact ⟨α, ρ, h, x, _, hσ, hr, e1, fun α1 H1 v ev1 hr1 rv => k α1 H1 ev1 hr1 v rv⟩
theorem ms_if {s1 s2 : List Stmt} (hc : PT X c (bM X.K tc)) (ha : PSs X s1 (sM X.K ms)) (hb : PSs X s2 (sM X.K mr)) : PS X (.If c s1 s2 pos) (sM X.K (sIf tc ms mr)) := (ps_if hc ha hb).imp fun D σ H ⟨α, ρ, h, d, h', hσ, hr, e, k⟩ => by
  obtain ⟨z, h1, e1, e⟩ := bnd_inv e
  refine ⟨α, ρ, h, z, h1, hσ, hr, e1, fun α1 H1 ev1 hr1 => ?_⟩
  cases z with
  | true => exact ⟨α1, ρ, h1, d, h', hσ.ev ev1, hr1, e, fun α2 H2 ev2 hr2 => k α2 H2 (ev1.trans ev2) hr2⟩
  | false => exact ⟨α1, ρ, h1, d, h', hσ.ev ev1, hr1, e, fun α2 H2 ev2 hr2 => k α2 H2 (ev1.trans ev2) hr2⟩
theorem mg_name {i : Nat} (h : PG X e (gName i)) : PG X e (gM X.K (gNm i)) := h.imp fun v σ H Q ⟨α, ρ, h, x, ρ', h', hσ, hr, rx, e, k⟩ => by
  cases e
  exact k α H _ .refl hr (hσ.set rx)
theorem mgs_nil : PGs X [] (gsM X.K gsNil) := pgs_nil.imp fun v σ H Q ⟨α, ρ, h, x, ρ', h', hσ, hr, rx, e, k⟩ => by
  cases x with
  | nil => cases e; exact ⟨rx, k α H _ .refl hr hσ⟩
  | cons _ _ => cases e
theorem mgs_cons (h1 : PG X e (gM X.K g)) (h2 : PGs X es (gsM X.K gs)) (hs : (assignEach (e :: es) X.env).map (·.2) = assign e X.env :: (assignEach es X.env).map (·.2)) : PGs X (e :: es) (gsM X.K (gsCons g gs)) := (pgs_cons h1 h2 hs).imp fun v σ H Q ⟨α, ρ, h, x, ρ', h', hσ, hr, rx, e, k⟩ => by
  cases x with
  | nil => cases e
  | cons x r =>
    obtain ⟨u, us, rfl, ru, rs⟩ := rx
    obtain ⟨ρ1, h1, e1, e⟩ := bnd_inv e
    exact ⟨u, us, rfl, α, ρ, h, x, ρ1, h1, hσ, hr, ru, e1, fun α1 H1 σ1 ev1 hr1 hσ1 => ⟨α1, ρ1, h1, r, ρ', h', hσ1, hr1, rs.ev ev1, e, fun α2 H2 σ2 ev2 hr2 hσ2 => k α2 H2 σ2 (ev1.trans ev2) hr2 hσ2⟩⟩
theorem mg_tup {k : Nat} {n : Nat} (hc : X.calm = true) (h : PGs X es (gsM X.K gs)) (hn : (assignEach es X.env).length = n) (hst : (assignEach es X.env).findIdx? (·.1) = none) : PG X (.Tuple es k pos) (gM X.K (gTp n gs)) := (pg_tup hc h hn hst).imp fun v σ H Q ⟨α, ρ, h, x, ρ', h', hσ, hr, rx, e, k⟩ => by
  unfold gTp at e
  split at e
  · split at e
    · rename_i xs hl
      obtain ⟨a, vs, rfl, t, rs⟩ := rx
      exact ⟨a, vs, rfl, t.sq, by rw [← rs.length]; exact hl, α, ρ, h, xs, ρ', h', hσ, hr, rs, e, k⟩
    · cases e
  · cases e
theorem ms_asg {tg : Expr} (he : PE X e (tM X.K me)) (hg : PG X tg (gM X.K g)) (hs : swapsWithSole [tg] e pos.line X.env = pure false) (hw : swappedStores [tg] e X.env = pure none) (h1 : (assignEach [tg] X.env).map (·.2) = [assign tg X.env]) :
    PS X (.Assign [tg] e pos) (sM X.K (sAsg me g)) := (ps_asg he hg hs hw h1).imp fun D σ H ⟨α, ρ, h, d, h', hσ, hr, e, k⟩ => by
  obtain ⟨x, h1, e1, e⟩ := bnd_inv e
  obtain ⟨ρ1, h2, e2, e⟩ := bnd_inv e
  cases e
  exact ⟨α, ρ, h, x, h1, hσ, hr, e1, fun α1 H1 v ev1 hr1 rv => ⟨α1, ρ, h1, x, ρ1, _, hσ.ev ev1, hr1, rv, e2, fun α2 H2 σ2 ev2 hr2 hσ2 => k α2 H2 (ev1.trans ev2) hr2 σ2 hσ2⟩⟩
theorem ms_set {i : Nat} {x : Str} {pos' : Pos} (hN : X.N.Nodup) (hi : X.N[i]? = some x) (hx : Loc X.env.scope x) (he : PE X e (tM X.K me)) (hs : notComp e = true) (hf : X.fn x = true) :
    PS X (.Assign [.Name x pos'] e pos) (sM X.K (sAsg me (gNm i))) := (ps_setk hN hi hx he hs hf).imp fun D σ H ⟨α, ρ, h, d, h', hσ, hr, e, k⟩ => by
  obtain ⟨x, h1, e1, e⟩ := bnd_inv e
  cases e
  exact ⟨α, ρ, h, x, _, hσ, hr, e1, fun α1 H1 v ev1 hr1 rv => k α1 H1 ev1 hr1 _ ((hσ.ev ev1).set rv)⟩
theorem ms_for {iter tg : Expr} {body : List Stmt} {mi : FI} (hp : PassesOwn (model X.prog X.w) X.A X.env X.xe) (hc : X.calm = true) (hi : PI X tg iter (iM X.K mi)) (hg : PG X tg (gM X.K g)) (hb : PSs X body (sM X.K ms)) (hs : ∀ x, foldedSetIterable iter X.env x = pure x) :
    PS X (.For tg iter body [] pos) (sM X.K (sFor mi g ms)) := (ps_for hp hc hi hg hb hs).imp fun D σ H ⟨α, ρ, h, d, h', hσ, hr, e, k⟩ => by
  obtain ⟨s, h1, e1, e⟩ := bnd_inv e
  refine ⟨α, ρ, h, s, h1, hσ, hr, e1, fun α1 H1 J ev1 hr1 wk => ?_⟩
  refine ⟨fun i m σ2 H2 => m = s.1.length - i ∧ i ≤ s.1.length ∧ ∃ α2 ρ2 h2, Ev α1 α2 H1 H2 ∧ REnv X.K α2 H2 ρ2 σ2 ∧ Rl X.K α2 h2 H2 ∧ mLoop s.1 s.2 (fun x ρ h => bnd (g x ρ h) fun ρ' h' => ms ρ' h') (s.1.drop i) ρ2 h2 = some (d, h'), ⟨_, rfl, Nat.zero_le _, α1, ρ, h1, .refl, hσ.ev ev1, hr1, e⟩, ?_⟩
  rintro i m σ2 H2 ⟨rfl, hi, α2, ρ2, h2, ev2, hσ2, hr2, e⟩
  by_cases hlt : i < s.1.length
  · right
    rw [List.drop_eq_getElem_cons hlt] at e
    unfold mLoop at e
    split at e
    · rename_i ok
      obtain ⟨go, yl⟩ := (wk [] (by simp) α2 h2 H2 ev2 hr2 ok i).1 s.1[i] (by simp [hlt])
      refine ⟨go, fun σ' H' => ∃ α3 ρ3 h3, Ev α1 α3 H1 H' ∧ REnv X.K α3 H' ρ3 σ' ∧ Rl X.K α3 h3 H' ∧ mLoop s.1 s.2 (fun x ρ h => bnd (g x ρ h) fun ρ' h' => ms ρ' h') (s.1.drop (i + 1)) ρ3 h3 = some (d, h'), fun σ' H' q => ⟨_, by omega, rfl, hlt, q⟩, fun v H3 y => ?_⟩
      obtain ⟨s3, rv⟩ := yl v H3 y
      obtain ⟨o, h4, e4, e⟩ := bnd_inv e
      obtain ⟨ρ5, h5, e5, e4⟩ := bnd_inv e4
      refine ⟨α2, ρ2, h2, _, ρ5, h5, hσ2.ev (.same s3), hr2.same s3, rv, e5, fun α5 H5 σ5 ev5 hr5 hσ5 => ?_⟩
      refine ⟨α5, ρ5, h5, o, h4, hσ5, hr5, e4, fun α6 H6 ev6 hr6 => ?_⟩
      have evA : Ev α1 α6 H1 H6 := ((ev2.trans (.same s3)).trans ev5).trans ev6
      cases o with
      | nx ρ' => exact fun σ' hσ' => ⟨α6, ρ', h4, evA, hσ', hr6, e⟩
      | ct ρ' => exact fun σ' hσ' => ⟨α6, ρ', h4, evA, hσ', hr6, e⟩
      | bk ρ' => cases e; exact fun σ' hσ' => k α6 H6 (ev1.trans evA) hr6 σ' hσ'
      | rt x => cases e; exact fun v rv => k α6 H6 (ev1.trans evA) hr6 v rv
    · cases e
  · left
    have ei : i = s.1.length := by omega
    subst ei
    rw [List.drop_length] at e
    unfold mLoop at e
    split at e
    · rename_i ok
      cases e
      exact ⟨(wk [] (by simp) α2 _ H2 ev2 hr2 ok _).2 rfl, k α2 H2 (ev1.trans ev2) hr2 σ2 hσ2⟩
    · cases e
def CG (K : PySem.W.Frag) (ix : List (Option Nat)) (g0 : TG) (g : FG) : Prop := ∀ (α : Pl) (h : HpM) (H : Hp) (σ σ1 : St) (ρ1 : EnvM) (x : M) (v : V) (ρ' : EnvM) (h' : HpM) (Q : St → Hp → Prop), Kept0 ix σ σ1 → REnv K α H ρ1 σ1 → RepA K α H x v → g x ρ1 h = some (ρ', h') →
  (∀ σ', Kept0 ix σ σ' → REnv K α H ρ' σ' → h' = h → Q σ' H) → g0 v σ1 H Q
theorem cg_name {K : PySem.W.Frag} {ix : List (Option Nat)} {i : Nat} (hi : ix[i]? = some none) : CG K ix (gName i) (gNm i) := by
  intro α h H σ σ1 ρ1 x v ρ' h' Q kp hσ rx e k
  cases e
  refine k _ ⟨by simp [kp.1], fun q w hq => ?_⟩ (hσ.set rx) rfl
  by_cases z : i = q
  · subst z
    unfold L2.tau at hq
    rw [List.getElem?_map, hi] at hq
    cases hq
  · rw [List.getElem?_set_ne z]; exact kp.2 q w hq
theorem PTs.imp {es : List Expr} {t t' : TT} (h : PTs X es t) (i : ∀ σ H Q, t' σ H Q → t σ H Q) : PTs X es t' := fun pins s σ H Q I q => h pins s σ H Q I (i σ H Q q)
def tTrueM : FT := fun _ h => some (true, h)
theorem mts_nil : PTs X [] (bM X.K tTrueM) := pts_nil.imp fun σ H Q ⟨α, ρ, h, d, h', hσ, hr, e, k⟩ => by
  cases e
  exact k α H .refl hr
theorem kept_tau {ix : List (Option Nat)} {σ : St} : Kept0 ix σ (tau ix σ) := ⟨by simp [L2.tau], fun _ _ h => h⟩
theorem comp_reads {K : PySem.W.Frag} {ix : List (Option Nat)} {mi : FI} {g0 : TG} {g : FG} {tc : FT} {me : FE} (cg : CG K ix g0 g) {σ : St} {H : Hp} {Q : VK} (q : tM K (mComp ix mi g tc me) σ H Q) : tComp ix (iM K mi) g0 (bM K tc) (tM K me) σ H Q := by
  obtain ⟨α, ρ, h, d, h', hσ, hr, e, k⟩ := q
  obtain ⟨s, h1, e1, e⟩ := bnd_inv e
  split at e
  · rename_i hl
    obtain ⟨ys, h2, e2, e⟩ := bnd_inv e
    cases e
    refine ⟨α, ρ, h, s, h1, hσ, hr, e1, fun α1 H1 J ev1 hr1 wk D hD => ?_⟩
    have hσ1 := (hσ.ev ev1).tau (ix := ix)
    have hDg : D ∉ α1.g := fun hm => by
      obtain ⟨o, e⟩ := hr1.hid D hm
      rw [hD] at e; cases e
    have hγ : ∀ b ∈ [D], H1 b = none := fun b hb => by rw [List.mem_singleton.mp hb]; exact hD
    refine ⟨fun i m acc H2 => m = s.1.length - i ∧ i ≤ s.1.length ∧ acc.length ≤ i ∧ ∃ a2 h2 zs rs, ys = zs ++ rs ∧ Ev (α1.hide D) (Pl.hide ⟨a2, α1.g⟩ D) H1 H2 ∧ Rl K (Pl.hide ⟨a2, α1.g⟩ D) h2 H2 ∧ REnv K (Pl.hide ⟨a2, α1.g⟩ D) H2 (tauM ix ρ) (tau ix σ) ∧ RepAs K (Pl.hide ⟨a2, α1.g⟩ D) H2 zs acc ∧ mComps s.1 s.2 g tc me (tauM ix ρ) (s.1.drop i) h2 = some (rs, h'),
      ⟨_, rfl, Nat.zero_le _, Nat.zero_le _, α1.a, h1, [], ys, rfl, .same (same_new hD _), hr1.lay hD, (hσ1.hide hD).ev (.same (same_new hD _)), rfl, e2⟩, ?_⟩
    rintro i m acc H2 ⟨rfl, hi, hacc, a2, h2, zs, rs, ey, ev2, hr2, hσ2, rz, e⟩ hDa
    have hDm : D ∈ (Pl.hide ⟨a2, α1.g⟩ D).g := List.mem_cons_self
    have hDn : D ∉ a2 := fun hm => hr2.ap D hm hDm
    by_cases hlt : i < s.1.length
    · right
      rw [List.drop_eq_getElem_cons hlt] at e
      unfold mComps at e
      split at e
      · rename_i ok
        obtain ⟨go, yl⟩ := (wk [D] hγ _ h2 H2 ev2 hr2 ok i).1 s.1[i] (by simp [hlt])
        refine ⟨go, by rw [sizeLine_eq]; omega, fun v H3 y => ?_⟩
        obtain ⟨s3, rv⟩ := yl v H3 y
        obtain ⟨τ', h3, e3, e⟩ := bnd_inv e
        obtain ⟨t, h4, e4, e⟩ := bnd_inv e
        refine cg _ h2 H3 σ (tau ix σ) (tauM ix ρ) _ v τ' h3 _ kept_tau (hσ2.ev (.same s3)) rv e3 fun σ' kp hσ' eh => ⟨kp, ?_⟩
        subst eh
        refine ⟨_, τ', _, t, h4, hσ', hr2.same s3, e4, fun α4 H4 ev4 hr4 => ?_⟩
        have hD4 : H4 D = some (.lst acc) := ev4.keep _ _ (s3 _ _ hDa) (.inl trivial) hDn
        have hg4 : α4.g = D :: α1.g := ev4.pre.1
        have ea4 : α4 = Pl.hide ⟨α4.a, α1.g⟩ D := by cases α4; cases hg4; rfl
        have evA : Ev (α1.hide D) α4 H1 H4 := (ev2.trans (.same s3)).trans ev4
        cases t with
        | false =>
          refine ⟨hD4, _, ?_, rfl, hlt, by omega, α4.a, h4, zs, rs, ey, ?_, ?_, ?_, ?_, e⟩
          · omega
          · rw [← ea4]; exact evA
          · rw [← ea4]; exact hr4
          · rw [← ea4]; exact (hσ2.ev (.same s3)).ev ev4
          · rw [← ea4]; exact (rz.ev (.same s3)).ev ev4
        | true =>
          obtain ⟨y, h5, e5, e⟩ := bnd_inv e
          obtain ⟨rs', h6, e6, e⟩ := bnd_inv e
          cases e
          refine ⟨α4, τ', h4, y, h5, hσ'.ev ev4, hr4, e5, fun α5 H5 w ev5 hr5 rw' => ?_⟩
          have hD4n : D ∉ α4.a := fun hm => hr4.ap D hm (by rw [hg4]; exact List.mem_cons_self)
          have hD5 : H5 D = some (.lst acc) := ev5.keep _ _ hD4 (.inl trivial) hD4n
          have hg5 : α5.g = D :: α1.g := ev5.pre.1.trans hg4
          have hD5m : D ∈ α5.g := by rw [hg5]; exact List.mem_cons_self
          have ea5 : α5 = Pl.hide ⟨α5.a, α1.g⟩ D := by cases α5; cases hg5; rfl
          refine ⟨hD5, _, ?_, rfl, hlt, by simp; omega, α5.a, h5, zs ++ [y], rs', by rw [ey]; simp, ?_, ?_, ?_, ?_, e6⟩
          · omega
          · rw [← ea5]; exact (evA.trans ev5).hw hD
          · rw [← ea5]; exact hr5.hw hD5m
          · rw [← ea5]; exact (((hσ2.ev (.same s3)).ev ev4).ev ev5).hw hD5m
          · rw [← ea5]; exact ((((rz.ev (.same s3)).ev ev4).ev ev5).snoc rw').hw hD5m
      · cases e
    · left
      have ei : i = s.1.length := by omega
      subst ei
      rw [List.drop_length] at e
      unfold mComps at e
      split at e
      · rename_i ok
        cases e
        refine ⟨(wk [D] hγ _ _ H2 ev2 hr2 ok _).2 rfl, k ⟨a2, α1.g⟩ H2 _ (ev1.trans ev2.unhide) hr2.show ⟨D, acc, rfl, ⟨hDn, hDg⟩, hDa, ?_⟩⟩
        rw [ey, List.append_nil]; exact rz.show
      · cases e
  · cases e
theorem me_comp {elt tg iter : Expr} {ifs : List Expr} {scope : Scope} {N' : List Str} {ix : List (Option Nat)} {mi : FI} {g0 : TG}
    (S : CompScope X N' ix scope) (hcalm : X.calm = true) (cg : CG X.K ix g0 g) (hi : PI X tg iter (iM X.K mi))
    (hg : ∀ C s₀ H₀ fp, PG (X.comp scope (clOf X.env.cells scope.names []) C s₀ H₀ fp N') tg g0)
    (ht : ∀ C s₀ H₀ fp, PTs (X.comp scope (clOf X.env.cells scope.names []) C s₀ H₀ fp N') ifs (bM (X.comp scope (clOf X.env.cells scope.names []) C s₀ H₀ fp N').K tc))
    (he : ∀ C s₀ H₀ fp, PE (X.comp scope (clOf X.env.cells scope.names []) C s₀ H₀ fp N') elt (tM (X.comp scope (clOf X.env.cells scope.names []) C s₀ H₀ fp N').K me))
    (hs : ∀ x, foldedSetIterable iter X.env x = pure x) : PE X (.ListComp elt [⟨tg, iter, ifs, 0⟩] scope pos) (tM X.K (mComp ix mi g tc me)) :=
  (pe_comp S hcalm hi hg ht he hs).imp fun σ H Q q => comp_reads cg q
end
end L2
set_option Elab.async false
set_option linter.all false
set_option maxRecDepth 100000
namespace L2
open PySem PySem.Spec PyProof.Rows
section
variable {X : Cx} {a b c e o : Expr} {es : List Expr} {ma mb mc me : FE} {mas : FA} {tc : FT} {st : Stmt} {rest : List Stmt} {ms mr : FS} {g : FG} {gs : FGs} {pos p : Pos}
theorem ms_setC {elt tg iter : Expr} {ifs : List Expr} {scope : Scope} {pos' spos : Pos} {N' : List Str} {ix : List (Option Nat)} {mi : FI} {g0 : TG} {k : Nat} {x : Str}
    (hN : X.N.Nodup) (hk : X.N[k]? = some x) (hx : X.env.scope.names.lookup x = some .local)
    (S : CompScope X N' ix scope) (hcalm : X.calm = true) (cg : CG X.K ix g0 g) (hi : PI X tg iter (iM X.K mi))
    (hg : ∀ C s₀ H₀ fp, PG (X.comp scope (clOf X.env.cells scope.names []) C s₀ H₀ fp N') tg g0)
    (ht : ∀ C s₀ H₀ fp, PTs (X.comp scope (clOf X.env.cells scope.names []) C s₀ H₀ fp N') ifs (bM (X.comp scope (clOf X.env.cells scope.names []) C s₀ H₀ fp N').K tc))
    (he : ∀ C s₀ H₀ fp, PE (X.comp scope (clOf X.env.cells scope.names []) C s₀ H₀ fp N') elt (tM (X.comp scope (clOf X.env.cells scope.names []) C s₀ H₀ fp N').K me))
    (hsw : swapsWith (.ListComp elt [⟨tg, iter, ifs, 0⟩] scope pos) (some (.Name x pos')) spos.line X.env = pure true)
    (hs : ∀ x, foldedSetIterable iter X.env x = pure x) :
    PS X (.Assign [.Name x pos'] (.ListComp elt [⟨tg, iter, ifs, 0⟩] scope pos) spos) (sM X.K (sAsg (mComp ix mi g tc me) (gNm k))) :=
  (ps_setC hN hk hx S hcalm hi hg ht he hsw hs).imp fun D σ H ⟨α, ρ, h, d, h', hσ, hr, e, kk⟩ => by
    obtain ⟨x, h1, e1, e⟩ := bnd_inv e
    cases e
    exact comp_reads cg ⟨α, ρ, h, x, _, hσ, hr, e1, fun α1 H1 v ev1 hr1 rv => kk α1 H1 ev1 hr1 _ ((hσ.ev ev1).set rv)⟩
theorem PI.imp {tg iter : Expr} {t t' : TI} (h : PI X tg iter t) (i : ∀ σ H R, t' σ H R → t σ H R) : PI X tg iter t' := fun pins s σ H R I q => h pins s σ H R I (i σ H R q)
def iL (a : FE) : FI := fun ρ h => bnd (a ρ h) fun x h1 => match x with
  | .lst xs => some ((xs, none), h1)
  | .scr ns => some ((ns.map M.int, none), h1)
  | .ref k => (match h1[k]? with | some (.lst xs) => some ((xs, some k), h1) | _ => none)
  | _ => none
def iT (a : FE) : FI := fun ρ h => bnd (a ρ h) fun x h1 => match x with | .tup xs => some ((xs, none), h1) | _ => none
def iS (a : FE) : FI := fun ρ h => bnd (a ρ h) fun x h1 => match x with | .str z => some ((z.cps.toList.map fun c => M.str ⟨#[c]⟩, none), h1) | _ => none
def iR1 (a : FA) : FI := fun ρ h => bnd (a ρ h) fun xs h1 => match xs with | [.int j] => if -4611686018427387904 ≤ j ∧ j < 4611686018427387904 then some (((List.range j.toNat).map fun (i : Nat) => M.int (i : Int), none), h1) else none | _ => none
theorem RepAs.ints {K : PySem.W.Frag} {α : Pl} {H : Hp} : ∀ {ns : List Int}, RepAs K α H (ns.map M.int) (ns.map V.int)
  | [] => rfl
  | n :: ns => ⟨_, _, rfl, rfl, RepAs.ints⟩
theorem RepA.hides {K : PySem.W.Frag} {α : Pl} {H : Hp} {m : M} {v : V} (r : RepA K α H m v) : ∀ {γ : List Addr}, (∀ b ∈ γ, H b = none) → RepA K ⟨α.a, γ ++ α.g⟩ H m v
  | [], _ => r
  | p :: γ, h => RepA.hide (α := ⟨α.a, γ ++ α.g⟩) (h p List.mem_cons_self) (RepA.hides r fun b hb => h b (List.mem_cons_of_mem _ hb))
theorem wk_list {K : PySem.W.Frag} {α : Pl} {H : Hp} {a : Addr} {xs : List M} {k : Option Nat} (hs : ∀ γ, (∀ b ∈ γ, H b = none) → ∀ α1 h1 H1, Ev ⟨α.a, γ ++ α.g⟩ α1 H H1 → Rl K α1 h1 H1 → okS xs k h1 → ∃ vs, SqL K H1 a vs ∧ RepAs K α1 H1 xs vs) : Wk K α H xs k (Itl K a) := by
  intro γ hγ α1 h1 H1 ev hr ok i
  obtain ⟨vs, sq, rs⟩ := hs γ hγ α1 h1 H1 ev hr ok
  refine ⟨fun x hx => ?_, fun hl => ⟨vs, sq, by rw [← rs.length]; omega⟩⟩
  obtain ⟨v, hv, rv⟩ := rs.get hx
  refine ⟨⟨vs, v, sq, hv⟩, fun w H2 y => ?_⟩
  obtain ⟨e1, e2⟩ := y
  subst e1
  have := e2 vs sq
  rw [hv] at this
  cases this
  exact ⟨Same.refl _, rv⟩
theorem wk_tup {K : PySem.W.Frag} {α : Pl} {H : Hp} {a : Addr} {xs : List M} {k : Option Nat} (hs : ∀ γ, (∀ b ∈ γ, H b = none) → ∀ α1 h1 H1, Ev ⟨α.a, γ ++ α.g⟩ α1 H H1 → Rl K α1 h1 H1 → okS xs k h1 → ∃ vs, SqT K H1 a vs ∧ RepAs K α1 H1 xs vs) : Wk K α H xs k (Itt K a) := by
  intro γ hγ α1 h1 H1 ev hr ok i
  obtain ⟨vs, sq, rs⟩ := hs γ hγ α1 h1 H1 ev hr ok
  refine ⟨fun x hx => ?_, fun hl => ⟨vs, sq, by rw [← rs.length]; omega⟩⟩
  obtain ⟨v, hv, rv⟩ := rs.get hx
  refine ⟨⟨vs, v, sq, hv⟩, fun w H2 y => ?_⟩
  obtain ⟨e1, e2⟩ := y
  subst e1
  have := e2 vs sq
  rw [hv] at this
  cases this
  exact ⟨Same.refl _, rv⟩
theorem mi_list {l tg : Expr} {ml : FE} (hl : PE X l (tM X.K ml)) : PI X tg l (iM X.K (iL ml)) := (pi_list hl).imp fun σ H R ⟨α, ρ, h, s, h', hσ, hr, e, k⟩ => by
  obtain ⟨x, h1, e1, e⟩ := bnd_inv e
  split at e
  · cases e
    refine ⟨α, ρ, h, _, _, hσ, hr, e1, fun α1 H1 v ev1 hr1 rv => ?_⟩
    obtain ⟨a, vs, rfl, n, ha, rs⟩ := id rv
    refine ⟨a, rfl, ⟨vs, .of ha⟩, k α1 H1 _ ev1 hr1 (wk_list fun γ hγ α2 h2 H2 ev2 hr2 _ => ?_)⟩
    obtain ⟨a', vs', ea, n', ha', rs'⟩ := (rv.hides hγ).ev ev2
    cases ea
    exact ⟨vs', .of ha', rs'⟩
  · cases e
    refine ⟨α, ρ, h, _, _, hσ, hr, e1, fun α1 H1 v ev1 hr1 rv => ?_⟩
    obtain ⟨a, rfl, ha⟩ := id rv
    refine ⟨a, rfl, ⟨_, ha.sq⟩, k α1 H1 _ ev1 hr1 (wk_list fun γ hγ α2 h2 H2 ev2 hr2 _ => ?_)⟩
    obtain ⟨a', ea, ha'⟩ := (rv.hides hγ).ev ev2
    cases ea
    exact ⟨_, ha'.sq, RepAs.ints⟩
  · split at e
    · rename_i k0 xs hk
      cases e
      refine ⟨α, ρ, h, _, _, hσ, hr, e1, fun α1 H1 v ev1 hr1 rv => ?_⟩
      obtain ⟨a, ha, rfl⟩ := id rv
      obtain ⟨vs, hv, rs⟩ := hr1.obj _ a _ ha hk
      refine ⟨a, rfl, ⟨_, .of hv⟩, k α1 H1 _ ev1 hr1 (wk_list fun γ hγ α2 h2 H2 ev2 hr2 ok => ?_)⟩
      obtain ⟨vs', hv', rs'⟩ := hr2.obj _ a _ (ev2.ix ha) ok
      exact ⟨_, .of hv', rs'⟩
    · cases e
  · cases e
theorem mi_tup {l tg : Expr} {ml : FE} (hl : PE X l (tM X.K ml)) : PI X tg l (iM X.K (iT ml)) := (pi_tup hl).imp fun σ H R ⟨α, ρ, h, s, h', hσ, hr, e, k⟩ => by
  obtain ⟨x, h1, e1, e⟩ := bnd_inv e
  split at e
  · cases e
    refine ⟨α, ρ, h, _, _, hσ, hr, e1, fun α1 H1 v ev1 hr1 rv => ?_⟩
    obtain ⟨a, vs, rfl, ha, rs⟩ := id rv
    refine ⟨a, rfl, ⟨vs, ha.sq⟩, k α1 H1 _ ev1 hr1 (wk_tup fun γ hγ α2 h2 H2 ev2 hr2 _ => ?_)⟩
    obtain ⟨a', vs', ea, ha', rs'⟩ := (rv.hides hγ).ev ev2
    cases ea
    exact ⟨vs', ha'.sq, rs'⟩
  · cases e
theorem mi_str {l tg : Expr} {ml : FE} (hl : PE X l (tM X.K ml)) : PI X tg l (iM X.K (iS ml)) := (pi_str hl).imp fun σ H R ⟨α, ρ, h, s, h', hσ, hr, e, k⟩ => by
  obtain ⟨x, h1, e1, e⟩ := bnd_inv e
  split at e
  · rename_i z
    cases e
    refine ⟨α, ρ, h, _, _, hσ, hr, e1, fun α1 H1 v ev1 hr1 rv => ⟨z, rv, k α1 H1 _ ev1 hr1 fun γ hγ α2 h2 H2 ev2 hr2 _ i => ⟨fun x hx => ?_, fun hl => show z.cps.size ≤ i by simp at hl; omega⟩⟩⟩
    rw [List.getElem?_map] at hx
    cases q : z.cps.toList[i]? with
    | none => rw [q] at hx; cases hx
    | some c =>
      rw [q] at hx
      cases hx
      have hi : i < z.cps.size := by simpa using (List.getElem?_eq_some_iff.mp q).1
      refine ⟨hi, fun w H3 y => ?_⟩
      obtain ⟨e1, c', ec, ew⟩ := y
      subst e1 ew
      have : z.cps[i]? = some c := by simpa using q
      rw [this] at ec
      cases ec
      exact ⟨Same.refl _, rfl⟩
  · cases e
theorem wk_range {K : PySem.W.Frag} {α : Pl} {H : Hp} {lo : Int} {n : Nat} : Wk K α H ((List.range n).map fun (q : Nat) => M.int (lo + q)) none (Itr lo n) := by
  intro γ hγ α2 h2 H2 ev2 hr2 _ i
  refine ⟨fun x hx => ?_, fun hl => show n ≤ i by simp at hl; omega⟩
  have hi : i < n := by simpa using (List.getElem?_eq_some_iff.mp hx).1
  rw [List.getElem?_map, List.getElem?_range hi] at hx
  cases hx
  refine ⟨hi, fun w H3 y => ?_⟩
  obtain ⟨e1, ew⟩ := y
  subst e1 ew
  exact ⟨Same.refl _, rfl⟩
theorem mi_range1 {a tg : Expr} (hg : Gl X "range") (hm : X.mg "range" = none) (ha : PA X [a] (aM X.K mas)) (hs : starEach [a] X.env = [(false, eval a X.env)]) : PI X tg (.Call (.Name "range" p) [a] [] pos) (iM X.K (iR1 mas)) := (pi_range1 hg hm ha hs).imp fun σ H R ⟨α, ρ, h, s, h', hσ, hr, e, k⟩ => by
  obtain ⟨xs, h1, e1, e⟩ := bnd_inv e
  split at e
  · rename_i j
    split at e
    · rename_i hj
      cases e
      refine ⟨α, ρ, h, _, _, hσ, hr, e1, fun α1 H1 vs ev1 hr1 rv => ?_⟩
      obtain ⟨v, r, rfl, rv, rr⟩ := rv
      cases (show r = [] from rr)
      cases (show v = .int j from rv)
      refine ⟨j, rfl, by omega, by omega, k α1 H1 _ ev1 hr1 ?_⟩
      have := wk_range (K := X.K) (α := α1) (H := H1) (lo := 0) (n := j.toNat)
      simp only [Int.zero_add] at this
      exact this
    · cases e
  · cases e
def mFun (n k : Nat) (b : FS) : FF := fun ds h => if ds.length = n then bnd (b (ds.map some ++ List.replicate k none) h) fun o h1 => match o with
  | .rt d => some (d, h1)
  | .nx _ => some (.non, h1)
  | _ => none else none
theorem REnv.start {K : PySem.W.Frag} {α : Pl} {H : Hp} : ∀ {ds : List M} {vs : List V} {k : Nat}, RepAs K α H ds vs → REnv K α H (ds.map some ++ List.replicate k none) (vs.map some ++ List.replicate k none)
  | [], vs, k, h => by
    cases (show vs = [] from h)
    refine ⟨by simp, fun i m hi => ?_⟩
    simp [List.getElem?_replicate] at hi
  | d :: ds, vs, k, ⟨v, r, e, h1, h2⟩ => by
    subst e
    obtain ⟨q1, q2⟩ := REnv.start (k := k) h2
    refine ⟨by simpa using q1, fun i m hi => ?_⟩
    cases i with
    | zero => simp at hi; subst hi; exact ⟨v, by simp, h1⟩
    | succ i => simpa using q2 i m (by simpa using hi)
end
section
variable {P : Program} {w : World} {K : PySem.W.Frag} {mg : Str → Option Value} {base : Heap}
theorem Fun.okM {x qual : Str} {st : Stmt} {f : Addr} {fd : FuncData} {N ps : List Str} {k n : Nat} {b : FS} (F : Fun K x qual st f fd) (S : FnScope N ps (defScope st)) (hn : N.length = ps.length + n)
    (hb : ∀ (cdv : Value) (A : Around) (outer : List Env) (s : Shared) (H : Hp) (E : XK), Room k (A.deeper (envOfC qual (defScope st) s.heap.objs.size f cdv)) →
      PSs (cxOf CX0 P w K mg base N qual (defScope st) f cdv A outer s H E).nox (defBody st) (sM (cxOf CX0 P w K mg base N qual (defScope st) f cdv A outer s H E).nox.K b)) : FnOk P w K mg base CX0 (k + 1) f fd ps (spM K (mFun ps.length n b)) := by
  refine F.ok S (fun vs H Q E q => ?_) (fun cdv A outer s H vs Q E hr q => ⟨sM K b, hb cdv A outer s H E hr, ?_⟩)
  · obtain ⟨α, h, ds, d, h', rs, hr, e, _⟩ := q
    unfold mFun at e
    split at e
    · rename_i hl
      rw [← rs.length]; exact hl
    · cases e
  · obtain ⟨α, h, ds, d, h', rs, hr, e, k⟩ := q
    unfold mFun at e
    split at e
    · rename_i hl
      obtain ⟨o, h1, e1, e⟩ := bnd_inv e
      have ek : N.length - vs.length = n := by rw [← rs.length, hl, hn]; omega
      refine ⟨α, ds.map some ++ List.replicate n none, h, o, h1, ?_, hr, e1, fun α' H' ev hr' => ?_⟩
      · unfold start
        rw [ek]
        exact REnv.start rs
      · cases o with
        | nx ρ => cases e; exact fun σ _ => k α' H' .non ev hr' rfl
        | rt d => cases e; exact fun v rv => k α' H' v ev hr' rv
        | bk ρ => cases e
        | ct ρ => cases e
    · cases e
end
section
open Classical
mutual
/-- a thing with each place looked up by f -/
def resB (f : Nat → Option M) : M → Option M
  | .ref k => f k
  | .tup xs => (resBs f xs).map .tup
  | .lst xs => (resBs f xs).map .lst
  | .dct ks xs => (resBs f xs).map (.dct ks)
  | m => some m
def resBs (f : Nat → Option M) : List M → Option (List M)
  | [] => some []
  | x :: xs => (resB f x).bind fun y => (resBs f xs).map (y :: ·)
end
def lookR (n : Nat) (h : HpM) : Nat → Nat → Option M
  | 0, k => if k < n then some (.ref k) else none
  | q + 1, k => if k < n then some (.ref k) else match h[k]? with
    | some (.lst xs) => (resBs (lookR n h q) xs).map .lst
    | some (.dct kvs) => (resBs (lookR n h q) (kvs.map (·.2))).map (.dct (kvs.map (·.1)))
    | none => none
def resO (f : Nat → Option M) : MO → Option MO
  | .lst xs => (resBs f xs).map .lst
  | .dct kvs => (resBs f (kvs.map (·.2))).map fun ys => .dct ((kvs.map (·.1)).zip ys)
def resOs (f : Nat → Option M) : List MO → Option (List MO)
  | [] => some []
  | o :: os => (resO f o).bind fun p => (resOs f os).map (p :: ·)
def shut (n : Nat) (d : M) (h : HpM) : Option (M × HpM) := if h.length = n then some (d, h) else (resB (lookR n h 20) d).bind fun d' => (resOs (lookR n h 20) (h.take n)).map fun h' => (d', h')
def mSeal (f : FF) : FF := fun ds h => bnd (f ds h) fun d h1 => shut h.length d h1
end
mutual
theorem resB_rep {K : PySem.W.Frag} {α α' : Pl} {H : Hp} {f : Nat → Option M} (hn : ∀ b, α.no b → α'.no b) (hf : ∀ k m v, f k = some m → RepA K α H (.ref k) v → RepA K α' H m v) : ∀ {m m' : M} {v : V}, resB f m = some m' → RepA K α H m v → RepA K α' H m' v
  | .non, _, _, e, h => by cases e; exact h
  | .bl _, _, _, e, h => by cases e; exact h
  | .int _, _, _, e, h => by cases e; exact h
  | .str _, _, _, e, h => by cases e; exact h
  | .ty _, _, _, e, h => by cases e; exact h
  | .scr _, _, _, e, h => by
    cases e
    obtain ⟨a, e1, t⟩ := h
    exact ⟨a, e1, t.elim (fun ⟨q, n⟩ => .inl ⟨q, hn _ n⟩) .inr⟩
  | .tup xs, _, _, e, h => by
    obtain ⟨ys, e1, e2⟩ := Option.map_eq_some_iff.mp e
    subst e2
    obtain ⟨a, vs, e3, t, r⟩ := h
    exact ⟨a, vs, e3, t.elim (fun ⟨q, n⟩ => .inl ⟨q, hn _ n⟩) .inr, resBs_rep hn hf e1 r⟩
  | .lst xs, _, _, e, h => by
    obtain ⟨ys, e1, e2⟩ := Option.map_eq_some_iff.mp e
    subst e2
    obtain ⟨a, vs, e3, n, t, r⟩ := h
    exact ⟨a, vs, e3, hn _ n, t, resBs_rep hn hf e1 r⟩
  | .dct ks xs, _, _, e, h => by
    obtain ⟨ys, e1, e2⟩ := Option.map_eq_some_iff.mp e
    subst e2
    obtain ⟨a, vs, e3, n, t, ek, r⟩ := h
    exact ⟨a, vs, e3, hn _ n, t, ek, resBs_rep hn hf e1 r⟩
  | .ref k, _, _, e, h => hf k _ _ e h
theorem resBs_rep {K : PySem.W.Frag} {α α' : Pl} {H : Hp} {f : Nat → Option M} (hn : ∀ b, α.no b → α'.no b) (hf : ∀ k m v, f k = some m → RepA K α H (.ref k) v → RepA K α' H m v) : ∀ {m m' : List M} {v : List V}, resBs f m = some m' → RepAs K α H m v → RepAs K α' H m' v
  | [], _, _, e, h => by cases e; exact h
  | x :: xs, _, _, e, h => by
    obtain ⟨y, e1, e2⟩ := Option.bind_eq_some_iff.mp e
    obtain ⟨ys, e3, e4⟩ := Option.map_eq_some_iff.mp e2
    subst e4
    obtain ⟨v, r, rfl, h1, h2⟩ := h
    exact ⟨v, r, rfl, resB_rep hn hf e1 h1, resBs_rep hn hf e3 h2⟩
end
theorem lookR_rep {K : PySem.W.Frag} {α : Pl} {h : HpM} {H : Hp} {n : Nat} (hr : Rl K α h H) : ∀ (q k : Nat) (m : M) (v : V), lookR n h q k = some m → RepA K α H (.ref k) v → RepA K ⟨α.a.take n, α.g⟩ H m v
  | q, k, m, v, e, ⟨a, ha, e2⟩ => by
    have hn : ∀ b, α.no b → Pl.no ⟨α.a.take n, α.g⟩ b := fun b z => ⟨fun hm => z.1 (List.mem_of_mem_take hm), z.2⟩
    by_cases hk : k < n
    · have em : m = .ref k := by
        cases q <;> (unfold lookR at e; rw [if_pos hk] at e; exact (Option.some.inj e).symm)
      subst em
      exact ⟨a, by show (α.a.take n)[k]? = some a; rw [List.getElem?_take_of_lt hk]; exact ha, e2⟩
    · cases q with
      | zero => unfold lookR at e; rw [if_neg hk] at e; cases e
      | succ q =>
        have hna : Pl.no ⟨α.a.take n, α.g⟩ a := ⟨fun hm => by
          obtain ⟨j, hj⟩ := List.getElem?_of_mem hm
          have hjl : j < (α.a.take n).length := (List.getElem?_eq_some_iff.mp hj).1
          have hjn : j < n := by rw [List.length_take] at hjl; omega
          have hj' : α.a[j]? = some a := by rw [List.getElem?_take_of_lt hjn] at hj; exact hj
          have e1 := List.getElem?_eq_some_iff.mp hj'
          have e2 := List.getElem?_eq_some_iff.mp ha
          have := (List.getElem_inj hr.nd).mp (e1.2.trans e2.2.symm)
          omega, hr.ap a (List.mem_of_getElem? ha)⟩
        unfold lookR at e
        rw [if_neg hk] at e
        split at e
        · rename_i xs hx
          obtain ⟨ys, e3, e4⟩ := Option.map_eq_some_iff.mp e
          subst e4
          obtain ⟨vs, hv, rs⟩ := hr.obj k a _ ha hx
          exact ⟨a, vs, e2, hna, hv, resBs_rep hn (fun k m v => lookR_rep hr q k m v) e3 rs⟩
        · rename_i kvs hx
          obtain ⟨ys, e3, e4⟩ := Option.map_eq_some_iff.mp e
          subst e4
          obtain ⟨ws, hv, ek, rs⟩ := hr.obj k a _ ha hx
          exact ⟨a, ws, e2, hna, .inl hv, ek, resBs_rep hn (fun k m v => lookR_rep hr q k m v) e3 rs⟩
        · cases e
theorem resBs_len {f : Nat → Option M} : ∀ {m m' : List M}, resBs f m = some m' → m'.length = m.length
  | [], _, e => by cases e; rfl
  | x :: xs, _, e => by
    obtain ⟨y, e1, e2⟩ := Option.bind_eq_some_iff.mp e
    obtain ⟨ys, e3, e4⟩ := Option.map_eq_some_iff.mp e2
    subst e4
    simp [resBs_len e3]
theorem resOs_get {f : Nat → Option M} : ∀ {os os' : List MO} {k : Nat} {o' : MO}, resOs f os = some os' → os'[k]? = some o' → ∃ o, os[k]? = some o ∧ resO f o = some o'
  | [], _, _, _, e, h => by cases e; simp at h
  | o :: os, _, k, o', e, h => by
    obtain ⟨y, e1, e2⟩ := Option.bind_eq_some_iff.mp e
    obtain ⟨ys, e3, e4⟩ := Option.map_eq_some_iff.mp e2
    subst e4
    cases k with
    | zero => simp at h; subst h; exact ⟨o, rfl, e1⟩
    | succ k => simpa using resOs_get (k := k) e3 (by simpa using h)
theorem resOs_len {f : Nat → Option M} : ∀ {os os' : List MO}, resOs f os = some os' → os'.length = os.length
  | [], _, e => by cases e; rfl
  | o :: os, _, e => by
    obtain ⟨y, e1, e2⟩ := Option.bind_eq_some_iff.mp e
    obtain ⟨ys, e3, e4⟩ := Option.map_eq_some_iff.mp e2
    subst e4
    simp [resOs_len e3]
theorem shut_ok {K : PySem.W.Frag} {α : Pl} {h h' : HpM} {H : Hp} {n : Nat} {d d' : M} {v : V} (hr : Rl K α h H) (hn : n ≤ h.length) (e : shut n d h = some (d', h')) (rv : RepA K α H d v) : Rl K ⟨α.a.take n, α.g⟩ h' H ∧ RepA K ⟨α.a.take n, α.g⟩ H d' v := by
  unfold shut at e
  split at e
  · rename_i hl
    cases e
    have ea : (⟨α.a.take n, α.g⟩ : Pl) = α := by
      have : α.a.take n = α.a := List.take_of_length_le (by rw [hr.len]; omega)
      rw [this]
    rw [ea]
    exact ⟨hr, rv⟩
  · obtain ⟨d1, e1, e2⟩ := Option.bind_eq_some_iff.mp e
    obtain ⟨h1, e3, e4⟩ := Option.map_eq_some_iff.mp e2
    cases e4
    have hno : ∀ b, α.no b → Pl.no ⟨α.a.take n, α.g⟩ b := fun b z => ⟨fun hm => z.1 (List.mem_of_mem_take hm), z.2⟩
    have hf := fun k m v => lookR_rep (n := n) hr 20 k m v
    refine ⟨⟨?_, ?_, fun b hb => hr.ap b (List.mem_of_mem_take hb), hr.hid, fun k a o hk ho => ?_⟩, resB_rep hno hf e1 rv⟩
    · rw [resOs_len e3]; simp [hr.len]
    · exact hr.nd.sublist (List.take_sublist _ _)
    · obtain ⟨o0, h0, eo⟩ := resOs_get e3 ho
      have hkn : k < n := by
        have := (List.getElem?_eq_some_iff.mp h0).1
        rw [List.length_take] at this; omega
      have hk' : α.a[k]? = some a := by
        have : (α.a.take n)[k]? = some a := hk
        rw [List.getElem?_take_of_lt hkn] at this; exact this
      have h0' : h[k]? = some o0 := by rw [List.getElem?_take_of_lt hkn] at h0; exact h0
      have q := hr.obj k a o0 hk' h0'
      cases o0 with
      | lst xs =>
        obtain ⟨ys, e5, e6⟩ := Option.map_eq_some_iff.mp eo
        subst e6
        obtain ⟨vs, hv, rs⟩ := q
        exact ⟨vs, hv, resBs_rep hno hf e5 rs⟩
      | dct kvs =>
        obtain ⟨ys, e5, e6⟩ := Option.map_eq_some_iff.mp eo
        subst e6
        obtain ⟨ws, hv, ek, rs⟩ := q
        have hl : (kvs.map (·.1)).length = ys.length := by rw [resBs_len e5]; simp
        refine ⟨ws, hv, ?_, ?_⟩
        · rw [ek, List.map_fst_zip (by omega)]
        · rw [List.map_snd_zip (by omega)]
          exact resBs_rep hno hf e5 rs
theorem spM_seal {K : PySem.W.Frag} {f : FF} {vs : List V} {H : Hp} {Q : VK} {E : XK} (q : spM K (mSeal f) vs H Q E) : spM K f vs H Q E := by
  obtain ⟨α, h, ds, d, h', rs, hr, e, k⟩ := q
  obtain ⟨d1, h1, e1, e⟩ := bnd_inv e
  refine ⟨α, h, ds, d1, h1, rs, hr, e1, fun α' H' v ev hr' rv => ?_⟩
  have hle : h.length ≤ h1.length := by
    obtain ⟨_, β, eb, _⟩ := ev.pre
    rw [← hr.len, ← hr'.len, eb]; simp
  obtain ⟨hr2, rv2⟩ := shut_ok hr' hle e rv
  have ea : (⟨α'.a.take h.length, α'.g⟩ : Pl) = α := by
    obtain ⟨eg, β, eb, _⟩ := ev.pre
    rw [eb, ← hr.len, List.take_left', eg]
    rfl
  rw [ea] at hr2 rv2
  exact k α H' v ⟨⟨rfl, [], by simp, by simp⟩, ev.keep, ev.keepD, ev.dom⟩ hr2 rv2
end L2
set_option Elab.async false
set_option linter.all false
set_option maxRecDepth 100000
namespace L2
open PySem PySem.Spec PyProof.Rows
def seqL (h : HpM) : M → Option (List M)
  | .lst xs => some xs
  | .ref k => (match h[k]? with | some (.lst xs) => some xs | _ => none)
  | _ => none
theorem seqL_rep {K : PySem.W.Frag} {α : Pl} {h : HpM} {H : Hp} {m : M} {v : V} {xs : List M} (hr : Rl K α h H) (rm : RepA K α H m v) (e : seqL h m = some xs) : ∃ a vs, v = .ref a ∧ H a = some (.lst vs) ∧ RepAs K α H xs vs := by
  unfold seqL at e
  split at e
  · cases e
    obtain ⟨a, vs, e1, n, ha, rs⟩ := rm
    exact ⟨a, vs, e1, ha, rs⟩
  · split at e
    · rename_i hk
      cases e
      obtain ⟨a, ha, e1⟩ := rm
      obtain ⟨vs, hv, rs⟩ := hr.obj _ a _ ha hk
      exact ⟨a, vs, e1, hv, rs⟩
    · cases e
  · cases e
def seqR (h : HpM) : M → Option (List M)
  | .scr ns => some (ns.map M.int)
  | m => seqL h m
theorem seqR_rep {K : PySem.W.Frag} {α : Pl} {h : HpM} {H : Hp} {m : M} {v : V} {xs : List M} (hr : Rl K α h H) (rm : RepA K α H m v) (e : seqR h m = some xs) : ∃ a vs, v = .ref a ∧ SqL K H a vs ∧ RepAs K α H xs vs := by
  unfold seqR at e
  split at e
  · cases e
    obtain ⟨a, e1, t⟩ := rm
    exact ⟨a, _, e1, t.sq, RepAs.ints⟩
  · obtain ⟨a, vs, e1, ha, rs⟩ := seqL_rep hr rm e
    exact ⟨a, vs, e1, .of ha, rs⟩
def cutM (xs : List M) (lo hi : Option Int) : List M := (xs.drop (HT.sIx xs.length 0 lo)).take (HT.sIx xs.length xs.length hi - HT.sIx xs.length 0 lo)
theorem RepAs.cut {K : PySem.W.Frag} {α : Pl} {H : Hp} {xs : List M} {vs : List V} {lo hi : Option Int} (r : RepAs K α H xs vs) : RepAs K α H (cutM xs lo hi) (cutV vs lo hi) := by
  unfold cutM cutV
  rw [← r.length]
  exact (r.drop _).take _
theorem laidL {K : PySem.W.Frag} {α : Pl} {h : HpM} {H : Hp} {p : Addr} {xs : List M} {vs : List V} (hr : Rl K α h H) (hp : H p = none) (rs : RepAs K α H xs vs) : RepA K α (upd H p (.lst vs)) (.lst xs) (.ref p) :=
  ⟨p, vs, rfl, hr.new hp, upd_same, rs.ev (.same (same_new hp _))⟩
theorem laidT {K : PySem.W.Frag} {α : Pl} {h : HpM} {H : Hp} {p : Addr} {xs : List M} {vs : List V} (hr : Rl K α h H) (hp : H p = none) (rs : RepAs K α H xs vs) : RepA K α (upd H p (.tup vs)) (.tup xs) (.ref p) :=
  ⟨p, vs, rfl, .inl ⟨.inl upd_same, hr.new hp⟩, rs.ev (.same (same_new hp _))⟩
section
variable {X : Cx} {K : PySem.W.Frag}
def rCatK (K : PySem.W.Frag) : R2 := fun x y H Q => ∃ (a b : Addr) (xs ys : List V), x = .ref a ∧ y = .ref b ∧ SqT K H a xs ∧ SqT K H b ys ∧ xs.length + ys.length ≤ sizeLine ∧
  (xs = [] → Q (.ref b) H) ∧ (xs ≠ [] → ys = [] → Q (.ref a) H) ∧ (xs ≠ [] → ys ≠ [] → ∀ p, H p = none → Q (.ref p) (upd H p (.tup (xs ++ ys))))
theorem op_catK : OpR X (binaryOp .Add) (rCatK X.K) := by
  intro pins s σ H x y v u Q I rx ry h
  obtain ⟨a, b, xs, ys, rfl, rfl, ha, hb, hz, q0, q1, q2⟩ := h
  by_cases hx : xs = []
  · subst hx
    cases rx
    cases ry
    obtain ⟨its, r1, p1, _⟩ := I.tuple ha
    obtain ⟨its2, r2, p2, _⟩ := I.tuple hb
    cases r1
    obtain ⟨⟨cls, dd, data, sl⟩, ho, hc, n, hd⟩ := id p1
    obtain ⟨⟨cls2, dd2, data2, sl2⟩, ho2, hc2, n2, hd2⟩ := id p2
    simp only at hc hd hc2 hd2
    subst hc hd hc2 hd2
    refine concat_meets ⟨_, ho, rfl⟩ ⟨_, ho2, rfl⟩ noFill_tuple_add seq_tuple_add PySem.F.slot_tuple_add PySem.F.entry_tuple_add (PySem.F.args_tuple_add_2 _ _)
      (tuple_addW0 a b _ _ n n2 dd dd2 sl sl2 (by simp)) ⟨ho, ho2, ?_⟩
    exact ⟨.ref b, H, I, rfl, q0 rfl⟩
  · exact op_catT pins s σ H _ _ v u Q I rx ry ⟨a, b, xs, ys, rfl, rfl, ha, hb, hx, hz, fun e => q1 hx e, fun e => q2 hx e⟩
def opAdd (x y : M) (h : HpM) : Option M := match x, y with
  | .int i, .int j => some (.int (i + j))
  | .str a, .str b => if a.length + b.length ≤ 16777216 then some (.str (a ++ b)) else none
  | .tup xs, .tup ys => if xs.length + ys.length ≤ 16777216 then some (.tup (xs ++ ys)) else none
  | x, y => (seqL h x).bind fun xs => (seqL h y).bind fun ys => if xs.length + ys.length ≤ 16777216 then some (.lst (xs ++ ys)) else none
def rAddM (K : PySem.W.Frag) : R2 := fun x y H Q => rI0 (fun i j => .int (i + j)) x y H Q ∨ (∃ i j, x = .str i ∧ y = .str j ∧ i.length + j.length ≤ sizeLine ∧ Q (.str (i ++ j)) H) ∨ rCat x y H Q ∨ rCatK K x y H Q
theorem op_addM : OpR X (binaryOp .Add) (rAddM X.K) := by
  intro pins s σ H x y v u Q I rx ry h
  rcases h with h | h | h | h
  · exact op_add pins s σ H x y v u Q I rx ry h
  · exact op_add_str pins s σ H x y v u Q I rx ry h
  · exact op_cat pins s σ H x y v u Q I rx ry h
  · exact op_catK pins s σ H x y v u Q I rx ry h
theorem fm_add : OpM K (rAddM K) opAdd := by
  intro α h H x y d u v Q hr rx ry e k
  unfold opAdd at e
  split at e
  · cases e
    exact .inl ⟨_, _, rx, ry, k H _ (Same.refl _) rfl⟩
  · split at e
    · rename_i hl
      cases e
      exact .inr (.inl ⟨_, _, rx, ry, by rw [sizeLine_eq]; exact hl, k H _ (Same.refl _) rfl⟩)
    · cases e
  · split at e
    · rename_i xs ys hl
      cases e
      obtain ⟨a, vs, rfl, ta, rs⟩ := id rx
      obtain ⟨b, ws, rfl, tb, rt⟩ := id ry
      refine .inr (.inr (.inr ⟨a, b, vs, ws, rfl, rfl, ta.sq, tb.sq, by rw [← rs.length, ← rt.length, sizeLine_eq]; exact hl, fun e => ?_, fun _ e => ?_, fun _ _ p hp => ?_⟩))
      · have : xs = [] := by have := rs.length; rw [e] at this; simpa using this
        subst this
        exact k H _ (Same.refl _) ry
      · have : ys = [] := by have := rt.length; rw [e] at this; simpa using this
        subst this
        rw [List.append_nil] at k
        exact k H _ (Same.refl _) rx
      · exact k _ _ (same_new hp _) (laidT hr hp (rs.app rt))
    · cases e
  · obtain ⟨xs, e1, e⟩ := Option.bind_eq_some_iff.mp e
    obtain ⟨ys, e2, e⟩ := Option.bind_eq_some_iff.mp e
    split at e
    · rename_i hl
      cases e
      obtain ⟨a, vs, rfl, ta, rs⟩ := seqL_rep hr rx e1
      obtain ⟨b, ws, rfl, tb, rt⟩ := seqL_rep hr ry e2
      exact .inr (.inr (.inl ⟨a, b, vs, ws, rfl, rfl, ta, tb, by rw [← rs.length, ← rt.length, sizeLine_eq]; exact hl, fun p hp => k _ _ (same_new hp _) (laidL hr hp (rs.app rt))⟩))
    · cases e
def onI (f : Int → Int → Option M) (x y : M) (_ : HpM) : Option M := match x, y with | .int i, .int j => f i j | _, _ => none
def opSub : M → M → HpM → Option M := onI fun i j => some (.int (i - j))
def opMod : M → M → HpM → Option M := onI fun i j => if 0 < j then some (.int (i % j)) else none
def opDiv : M → M → HpM → Option M := onI fun i j => if 0 < j ∧ j < 1073741824 then some (.int (i / j)) else none
def opPow : M → M → HpM → Option M := onI fun i j => if 0 ≤ j ∧ j ≤ 1000000 ∧ i.natAbs < 18446744073709551616 then some (.int (i ^ j.toNat)) else none
theorem onI_inv {f : Int → Int → Option M} {x y d : M} {h : HpM} (e : onI f x y h = some d) : ∃ i j, x = .int i ∧ y = .int j ∧ f i j = some d := by
  unfold onI at e
  split at e
  · exact ⟨_, _, rfl, rfl, e⟩
  · cases e
theorem fm_sub : OpM K (rI0 fun i j => .int (i - j)) opSub := by
  intro α h H x y d u v Q hr rx ry e k
  obtain ⟨i, j, rfl, rfl, e'⟩ := onI_inv e
  clear e
  have e := e'
  clear e'
  cases e
  exact ⟨i, j, rx, ry, k H _ (Same.refl _) rfl⟩
theorem fm_mod : OpM K (rI (fun _ j => 0 < j) fun i j => .int (i % j)) opMod := by
  intro α h H x y d u v Q hr rx ry e k
  obtain ⟨i, j, rfl, rfl, e'⟩ := onI_inv e
  clear e
  have e := e'
  clear e'
  split at e
  · rename_i hj
    cases e
    exact ⟨i, j, rx, ry, hj, k H _ (Same.refl _) rfl⟩
  · cases e
theorem fm_div : OpM K (rI CDiv fun i j => .int (i / j)) opDiv := by
  intro α h H x y d u v Q hr rx ry e k
  obtain ⟨i, j, rfl, rfl, e'⟩ := onI_inv e
  clear e
  have e := e'
  clear e'
  split at e
  · rename_i hj
    cases e
    exact ⟨i, j, rx, ry, hj, k H _ (Same.refl _) rfl⟩
  · cases e
theorem fm_pow : OpM K (rI CPow fun i j => .int (i ^ j.toNat)) opPow := by
  intro α h H x y d u v Q hr rx ry e k
  obtain ⟨i, j, rfl, rfl, e'⟩ := onI_inv e
  clear e
  have e := e'
  clear e'
  split at e
  · rename_i hj
    cases e
    exact ⟨i, j, rx, ry, ⟨hj.1, hj.2.1, by have := hj.2.2; omega⟩, k H _ (Same.refl _) rfl⟩
  · cases e
def reps (n : Nat) (xs : List M) : List M := (List.replicate n xs).flatten
def opMul (x y : M) (h : HpM) : Option M := match x, y with
  | .int i, .int j => if (-18446744073709551616 < i ∧ i < 18446744073709551616) ∨ (-18446744073709551616 < j ∧ j < 18446744073709551616) then some (.int (i * j)) else none
  | .str z, .int j => if z.length ≤ 16 ∧ 0 ≤ j ∧ j ≤ 1000 then some (.str (Txt.mul z j)) else none
  | x, .int j => (seqL h x).bind fun xs => if -9223372036854775808 ≤ j ∧ j < 9223372036854775808 ∧ xs.length * j.toNat ≤ 16777216 then some (.lst (reps j.toNat xs)) else none
  | _, _ => none
def rMulM : R2 := fun x y H Q => rI CMul (fun i j => .int (i * j)) x y H Q ∨ (∃ i j, x = .str i ∧ y = .int j ∧ (i.length ≤ 16 ∧ 0 ≤ j ∧ j ≤ 1000) ∧ Q (.str (Txt.mul i j)) H) ∨ rRep x y H Q
theorem op_mulM : OpR X (binaryOp .Mult) rMulM := by
  intro pins s σ H x y v u Q I rx ry h
  rcases h with h | h | h
  · exact op_mul pins s σ H x y v u Q I rx ry h
  · exact op_mul_str pins s σ H x y v u Q I rx ry h
  · exact op_rep pins s σ H x y v u Q I rx ry h
theorem RepAs.reps {α : Pl} {H : Hp} {xs : List M} {vs : List V} (r : RepAs K α H xs vs) : ∀ n : Nat, RepAs K α H (L2.reps n xs) (List.replicate n vs).flatten
  | 0 => rfl
  | n + 1 => by
    unfold L2.reps
    rw [List.replicate_succ, List.replicate_succ, List.flatten_cons, List.flatten_cons]
    exact r.app (RepAs.reps r n)
theorem fm_mul : OpM K rMulM opMul := by
  intro α h H x y d u v Q hr rx ry e k
  unfold opMul at e
  split at e
  · split at e
    · rename_i hl
      cases e
      refine .inl ⟨_, _, rx, ry, ?_, k H _ (Same.refl _) rfl⟩
      unfold CMul
      omega
    · cases e
  · split at e
    · rename_i hl
      cases e
      exact .inr (.inl ⟨_, _, rx, ry, hl, k H _ (Same.refl _) rfl⟩)
    · cases e
  · obtain ⟨xs, e1, e⟩ := Option.bind_eq_some_iff.mp e
    split at e
    · rename_i hl
      cases e
      obtain ⟨a, vs, rfl, ta, rs⟩ := seqL_rep hr rx e1
      exact .inr (.inr ⟨a, _, vs, rfl, ry, ta, by omega, by omega, by rw [← rs.length, sizeLine_eq]; omega, fun p hp => k _ _ (same_new hp _) (laidL hr hp (rs.reps _))⟩)
    · cases e
  · cases e
def onO (f : Int → Int → Bool) (g : List Nat → List Nat → Bool) (x y : M) (_ : HpM) : Option M := match x, y with
  | .int i, .int j => some (.bl (f i j))
  | .str a, .str b => some (.bl (g a.cps.toList b.cps.toList))
  | _, _ => none
def opLt := onO (fun i j => decide (i < j)) fun a b => decide (a < b)
def opLe := onO (fun i j => decide (i ≤ j)) fun a b => !decide (b < a)
def opGt := onO (fun i j => decide (j < i)) fun a b => decide (b < a)
theorem onO_inv {f : Int → Int → Bool} {g : List Nat → List Nat → Bool} {x y d : M} {h : HpM} (e : onO f g x y h = some d) : (∃ i j, x = .int i ∧ y = .int j ∧ d = .bl (f i j)) ∨ ∃ a b, x = .str a ∧ y = .str b ∧ d = .bl (g a.cps.toList b.cps.toList) := by
  unfold onO at e
  split at e
  · cases e; exact .inl ⟨_, _, rfl, rfl, rfl⟩
  · cases e; exact .inr ⟨_, _, rfl, rfl, rfl⟩
  · cases e
theorem fm_lt : OpM K rLtA opLt := by
  intro α h H x y d u v Q hr rx ry e k
  rcases onO_inv e with ⟨i, j, rfl, rfl, rfl⟩ | ⟨i, j, rfl, rfl, rfl⟩
  · exact .inl ⟨i, j, rx, ry, k H _ (Same.refl _) rfl⟩
  · exact .inr ⟨i, j, rx, ry, k H _ (Same.refl _) rfl⟩
theorem fm_le : OpM K rLeA opLe := by
  intro α h H x y d u v Q hr rx ry e k
  rcases onO_inv e with ⟨i, j, rfl, rfl, rfl⟩ | ⟨i, j, rfl, rfl, rfl⟩
  · exact .inl ⟨i, j, rx, ry, k H _ (Same.refl _) rfl⟩
  · exact .inr ⟨i, j, rx, ry, k H _ (Same.refl _) rfl⟩
theorem fm_gt : OpM K rGtA opGt := by
  intro α h H x y d u v Q hr rx ry e k
  rcases onO_inv e with ⟨i, j, rfl, rfl, rfl⟩ | ⟨i, j, rfl, rfl, rfl⟩
  · exact .inl ⟨i, j, rx, ry, k H _ (Same.refl _) rfl⟩
  · exact .inr ⟨i, j, rx, ry, k H _ (Same.refl _) rfl⟩
def keyM : M → Option Key
  | .int i => some (.inl i)
  | .str z => some (.inr z)
  | _ => none
theorem keyM_rep {K : PySem.W.Frag} {α : Pl} {H : Hp} {m : M} {v : V} {k : Key} (e : keyM m = some k) (r : RepA K α H m v) : v = kV k := by
  cases m <;> cases e <;> exact r
def dctOf (h : HpM) : M → Option (List (Key × M))
  | .dct ks xs => if ks.length = xs.length then some (ks.zip xs) else none
  | .ref k => (match h[k]? with | some (.dct kvs) => some kvs | _ => none)
  | _ => none
theorem dctOf_rep {K : PySem.W.Frag} {α : Pl} {h : HpM} {H : Hp} {m : M} {v : V} {kvs : List (Key × M)} (hr : Rl K α h H) (rm : RepA K α H m v) (e : dctOf h m = some kvs) : ∃ a ws, v = .ref a ∧ Rd H a (.dK ws) ∧ ws.map (·.1) = kvs.map (·.1) ∧ RepAs K α H (kvs.map (·.2)) (ws.map (·.2)) := by
  unfold dctOf at e
  split at e
  · split at e
    · rename_i hl
      cases e
      obtain ⟨a, ws, e1, n, ha, ek, rs⟩ := rm
      exact ⟨a, ws, e1, ha, by rw [ek, List.map_fst_zip (by omega)], by rw [List.map_snd_zip (by omega)]; exact rs⟩
    · cases e
  · split at e
    · rename_i hk
      cases e
      obtain ⟨a, ha, e1⟩ := rm
      obtain ⟨ws, hv, ek, rs⟩ := hr.obj _ a _ ha hk
      exact ⟨a, ws, e1, .inl hv, ek, rs⟩
    · cases e
  · cases e
def valM (kvs : List (Key × M)) (k : Key) : Option M := (kvs.find? fun kv => decide (kv.1 = k)).map (·.2)
theorem valM_rep {K : PySem.W.Frag} {α : Pl} {H : Hp} (k : Key) : ∀ {kvs : List (Key × M)} {ws : List (Key × V)}, ws.map (·.1) = kvs.map (·.1) → RepAs K α H (kvs.map (·.2)) (ws.map (·.2)) →
    (valV ws k).isSome = (valM kvs k).isSome ∧ ∀ m, valM kvs k = some m → ∃ v, valV ws k = some v ∧ RepA K α H m v
  | [], [], _, _ => ⟨rfl, fun m h => by cases h⟩
  | [], _ :: _, e, _ => by cases e
  | _ :: _, [], e, _ => by cases e
  | kv :: kvs, w :: ws, e, r => by
    obtain ⟨v, q, e1, h1, h2⟩ := r
    have e1' : w.2 :: ws.map (·.2) = v :: q := e1
    injection e1' with ev eq
    subst ev eq
    have e' : w.1 :: ws.map (·.1) = kv.1 :: kvs.map (·.1) := e
    injection e' with ek es
    obtain ⟨i1, i2⟩ := valM_rep k es h2
    by_cases hk : kv.1 = k
    · have hw : w.1 = k := ek.trans hk
      have a1 : valM (kv :: kvs) k = some kv.2 := by simp [valM, List.find?_cons, hk]
      have a2 : valV (w :: ws) k = some w.2 := valV_pos hw
      rw [a1, a2]
      exact ⟨rfl, fun m h => by cases h; exact ⟨_, rfl, h1⟩⟩
    · have hw : ¬ w.1 = k := fun z => hk (ek.symm.trans z)
      have a1 : valM (kv :: kvs) k = valM kvs k := by simp [valM, List.find?_cons, hk]
      have a2 : valV (w :: ws) k = valV ws k := valV_neg hw
      rw [a1, a2]
      exact ⟨i1, i2⟩
def ixM (x y : M) (h : HpM) : Option M := match dctOf h x with
  | some kvs => (keyM y).bind (valM kvs)
  | none => (match y with
  | .int i => (match x with
    | .tup xs => atI xs i
    | .str z => if z.length ≤ 16777216 then (atI z.cps.toList i).map fun c => .str ⟨#[c]⟩ else none
    | x => (seqR h x).bind fun xs => atI xs i)
  | _ => none)
def rIxD : R2 := fun x y H Q => ∃ a v, x = .ref a ∧ DGet H a y (some v) ∧ Q v H
theorem ix_dict (hu : X.A.units + 1 < cLine) : IxR X rIxD := by
  intro value slice pins s σ H x y v u Q I rx ry q hs
  obtain ⟨a, z, rfl, g, q⟩ := q
  cases (show v = .ref a from rx)
  have hT := dict_typeIs I g
  unfold subscriptTail
  refine wpAny_bind ?_
  rw [getitemInPython_of_ne hT.not_modules]
  refine wpAny_bind (wpAny_specialOf hT PySem.F.slot_dict_getitem.lookup ?_)
  have fin : wpAny (model X.prog X.w) X.A (subscripted slice false (.ref a) u) (fun r s₃ => wpAny (model X.prog X.w) X.A (letTemporaryGo value (.ref a) r >>= fun _ => pure r) (EP X pins σ Q) X.xe s₃) X.xe s := by
    rw [hs]
    exact wpAny_operating (wpAny_mono (d_getItem hu I g ry fun w' s3 I3 rw' => (⟨z, H, I3, rw', q⟩ : EP X pins σ Q w' s3)) (fun r s₃ h₃ => wpAny_bind (wpAny_letTemporaryGo (wpAny_pure h₃))) fun _ _ x => x)
  first
    | exact wpAny_pure (wpAny_bind fin)
    | exact wpAny_bind (wpAny_pure (wpAny_bind fin))
    | exact wpAny_bind fin
def rIxQ (K : PySem.W.Frag) : R2 := fun x y H Q => rIxD x y H Q ∨ rIx K x y H Q
theorem ix_M (hu : X.A.units + 151 < cLine) : IxR X (rIxQ X.K) := (ix_dict (by omega)).or ix_seq
theorem fm_ix : OpM K (rIxQ K) ixM := by
  intro α h H x y d u v Q hr rx ry e k
  unfold ixM at e
  split at e
  · rename_i kvs hk
    obtain ⟨key, e1, e2⟩ := Option.bind_eq_some_iff.mp e
    obtain ⟨a, ws, rfl, ha, ek, rs⟩ := dctOf_rep hr rx hk
    obtain ⟨w, hw, rw'⟩ := (valM_rep key ek rs).2 d e2
    cases (keyM_rep e1 ry)
    exact .inl ⟨a, w, rfl, by rw [← hw]; exact .inl ⟨_, _, ha, rfl, rfl⟩, k H _ (Same.refl _) rw'⟩
  refine .inr ?_
  split at e
  · rename_i i
    split at e
    · obtain ⟨a, vs, rfl, t, rs⟩ := rx
      obtain ⟨w, hw, rw'⟩ := rs.at e
      exact .inr (.inl ⟨a, vs, i, w, rfl, ry, t.sq, hw, k H _ (Same.refl _) rw'⟩)
    · split at e
      · rename_i hl
        obtain ⟨c, e1, e2⟩ := Option.map_eq_some_iff.mp e
        subst e2
        exact .inr (.inr ⟨_, i, c, rx, ry, by rw [sizeLine_eq]; exact hl, e1, k H _ (Same.refl _) rfl⟩)
      · cases e
    · obtain ⟨xs, e1, e⟩ := Option.bind_eq_some_iff.mp e
      obtain ⟨a, vs, rfl, t, rs⟩ := seqR_rep hr rx e1
      obtain ⟨w, hw, rw'⟩ := rs.at e
      exact .inl ⟨a, vs, i, w, rfl, ry, t, hw, k H _ (Same.refl _) rw'⟩
  · cases e
def rSlK (K : PySem.W.Frag) : V → Option Int → Option Int → Hp → VK → Prop := fun x lo hi H Q => ∃ a xs, x = .ref a ∧ SqT K H a xs ∧ (cutV xs lo hi = xs → Q (.ref a) H) ∧ ∀ p, H p = none → Q (.ref p) (upd H p (.tup (cutV xs lo hi)))
theorem sl_tupK : SlR X (rSlK X.K) := by
  intro pins s σ H x v vl vu lo hi sl Q I rx hs pl pu h
  obtain ⟨a, xs, rfl, hx, q1, q2⟩ := h
  by_cases hw : HT.sIx xs.length 0 lo = 0 ∧ HT.sIx xs.length xs.length hi = xs.length
  · cases rx
    obtain ⟨its, r, ht, _⟩ := I.tuple hx
    have hlen : its.toArray.size = xs.length := by rw [List.size_toArray]; exact r.length.symm
    refine ⟨"tuple", _, PyProof.Rows.slot_tuple_getitem.lookup, ht.typeIs, ?_⟩
    refine whole_tuple ht hs pl pu (by rw [hlen]; exact hw) ⟨.ref a, H, I, rfl, q1 ?_⟩
    unfold cutV; rw [hw.1, hw.2]; simp
  · exact sl_tup pins s σ H _ v vl vu lo hi sl Q I rx hs pl pu ⟨a, xs, rfl, hx, hw, q2⟩
def slM (x : M) (lo hi : Option Int) (h : HpM) : Option M := match x with
  | .tup xs => some (.tup (cutM xs lo hi))
  | .str z => if z.length ≤ 16777216 then some (.str (Txt.slice z lo hi)) else none
  | x => (seqR h x).map fun xs => .lst (cutM xs lo hi)
def rSlM (K : PySem.W.Frag) : V → Option Int → Option Int → Hp → VK → Prop := fun x lo hi H Q => rSlL K x lo hi H Q ∨ rSlK K x lo hi H Q ∨ rSlS x lo hi H Q
theorem sl_M : SlR X (rSlM X.K) := sl_list.or (sl_tupK.or sl_str)
theorem fm_sl : SlM K (rSlM K) slM := by
  intro α h H x d lo hi u Q hr rx e k
  unfold slM at e
  split at e
  · cases e
    obtain ⟨a, vs, rfl, t, rs⟩ := id rx
    refine .inr (.inl ⟨a, vs, rfl, t.sq, fun e => ?_, fun p hp => k _ _ (same_new hp _) (laidT hr hp rs.cut)⟩)
    have rc := rs.cut (lo := lo) (hi := hi)
    rw [e] at rc
    exact k H _ (Same.refl _) ⟨a, vs, rfl, t, rc⟩
  · split at e
    · rename_i hl
      cases e
      exact .inr (.inr ⟨_, rx, by rw [sizeLine_eq]; exact hl, k H _ (Same.refl _) rfl⟩)
    · cases e
  · obtain ⟨xs, e1, e2⟩ := Option.map_eq_some_iff.mp e
    subst e2
    obtain ⟨a, vs, rfl, t, rs⟩ := seqR_rep hr rx e1
    exact .inl ⟨a, vs, rfl, t, fun p hp => k _ _ (same_new hp _) (laidL hr hp rs.cut)⟩
end
end L2
set_option Elab.async false
set_option linter.all false
set_option maxRecDepth 100000
namespace L2
open PySem PySem.Spec PyProof.Rows
mutual
def RepK (K : PySem.W.Frag) (H : Hp) : D → V → Prop
  | .non, v => v = .non
  | .bl b, v => v = .bl b
  | .int i, v => v = .int i
  | .str x, v => v = .str x
  | .tup ds, v => ∃ a xs, v = .ref a ∧ SqT K H a xs ∧ RepKs K H ds xs
  | .lst ds, v => ∃ a xs, v = .ref a ∧ SqL K H a xs ∧ RepKs K H ds xs
def RepKs (K : PySem.W.Frag) (H : Hp) : List D → List V → Prop
  | [], xs => xs = []
  | d :: ds, xs => ∃ x r, xs = x :: r ∧ RepK K H d x ∧ RepKs K H ds r
end
section
open PySem.SeqAt
variable {X : Cx} {pins : List (Addr × Obj)} {σ : St} {H : Hp} {s : Shared}
theorem Inv.tupK (I : Inv X pins σ H s) {a : Addr} {xs : List V} (h : SqT X.K H a xs) : ∃ its : List Value, Vals xs its ∧ s.heap.IsTuple a its.toArray := by
  obtain ⟨its, r, t, _⟩ := I.tuple h
  exact ⟨its, r, t⟩
theorem Inv.lstK (I : Inv X pins σ H s) {a : Addr} {xs : List V} (h : SqL X.K H a xs) : ∃ its : List Value, Vals xs its ∧ s.heap.IsList a its.toArray := by
  obtain ⟨its, r, t, _⟩ := I.list h
  exact ⟨its, r, t.isList⟩
theorem Inv.apartK (I : Inv X pins σ H s) {a : Addr} {xs ys : List V} (h : SqT X.K H a xs) (h' : SqL X.K H a ys) : False := by
  obtain ⟨its, r, o, e, c, _⟩ := I.tupK h
  obtain ⟨its', r', o', e', c', _⟩ := I.lstK h'
  rw [e] at e'
  cases e'
  rw [c] at c'
  exact absurd c' (by decide)
mutual
theorem RepK.inj (I : Inv X pins σ H s) : ∀ {d d' : D} {v : V}, RepK X.K H d v → RepK X.K H d' v → d = d'
  | .non, d', v, h, h' => by
    cases (show v = .non from h)
    cases d' <;> simp_all [RepK]
  | .bl b, d', v, h, h' => by
    cases (show v = .bl b from h)
    cases d' <;> simp_all [RepK]
  | .int b, d', v, h, h' => by
    cases (show v = .int b from h)
    cases d' <;> simp_all [RepK]
  | .str b, d', v, h, h' => by
    cases (show v = .str b from h)
    cases d' <;> simp_all [RepK]
  | .tup ds, d', v, h, h' => by
    obtain ⟨a, xs, rfl, ha, hs⟩ := h
    cases d' with
    | tup ds' =>
      obtain ⟨a', xs', e, ha', hs'⟩ := h'
      cases e
      cases I.tuple_inj ha ha'
      rw [RepKs.inj I hs hs']
    | lst ds' =>
      obtain ⟨a', xs', e, ha', hs'⟩ := h'
      cases e
      exact (I.apartK ha ha').elim
    | _ => cases (show V.ref a = _ from h')
  | .lst ds, d', v, h, h' => by
    obtain ⟨a, xs, rfl, ha, hs⟩ := h
    cases d' with
    | lst ds' =>
      obtain ⟨a', xs', e, ha', hs'⟩ := h'
      cases e
      cases I.list_inj ha ha'
      rw [RepKs.inj I hs hs']
    | tup ds' =>
      obtain ⟨a', xs', e, ha', hs'⟩ := h'
      cases e
      exact (I.apartK ha' ha).elim
    | _ => cases (show V.ref a = _ from h')
theorem RepKs.inj (I : Inv X pins σ H s) : ∀ {ds ds' : List D} {xs : List V}, RepKs X.K H ds xs → RepKs X.K H ds' xs → ds = ds'
  | [], ds', xs, h, h' => by
    cases (show xs = [] from h)
    cases ds' with
    | nil => rfl
    | cons d r => obtain ⟨x, r', e, _⟩ := h'; cases e
  | d :: ds, ds', xs, h, h' => by
    obtain ⟨x, r, rfl, h1, h2⟩ := h
    cases ds' with
    | nil => cases (show x :: r = [] from h')
    | cons d2 r2 =>
      obtain ⟨x', r', e, h1', h2'⟩ := h'
      cases e
      rw [RepK.inj I h1 h1', RepKs.inj I h2 h2']
end
theorem RepKs.length {K : PySem.W.Frag} {H : Hp} : ∀ {ds : List D} {xs : List V}, RepKs K H ds xs → ds.length = xs.length
  | [], xs, h => by cases (show xs = [] from h); rfl
  | d :: ds, xs, h => by
    obtain ⟨x, r, rfl, _, h2⟩ := h
    simp [RepKs.length h2]
theorem RepKs.get' {K : PySem.W.Frag} {H : Hp} : ∀ {ds : List D} {xs : List V} {j : Nat} {d : D}, RepKs K H ds xs → ds[j]? = some d → ∃ x, xs[j]? = some x ∧ RepK K H d x
  | [], xs, j, x, h, e => by simp at e
  | d :: ds, xs, 0, x, h, e => by
    obtain ⟨y, r, rfl, h1, h2⟩ := h
    simp at e; subst e
    exact ⟨y, rfl, h1⟩
  | d :: ds, xs, j + 1, x, h, e => by
    obtain ⟨y, r, rfl, h1, h2⟩ := h
    obtain ⟨d', e', h'⟩ := RepKs.get' (j := j) h2 (by simpa using e)
    exact ⟨d', by simpa using e', h'⟩
theorem seq_itemsK {A : Around} {xs ys : List V} {its its2 : List Value} {ds ds' : List D} (rv : Vals xs its) (rv2 : Vals ys its2) (hx : RepKs X.K H ds xs) (hy : RepKs X.K H ds' ys)
    (ih : ∀ (j : Nat) d d' x y u v, ds[j]? = some d → ds'[j]? = some d' → RepK X.K H d x → RepK X.K H d' y → RelV x u → RelV y v → EqAt A s u v (deq d d')) :
    ∀ j (h1 : j < its.toArray.size) (h2 : j < its2.toArray.size), EqAt A s its.toArray[j] its2.toArray[j] (deq (ds.getD j .non) (ds'.getD j .non)) := by
  intro j h1 h2
  have l1 := rv.length
  have l2 := rv2.length
  have k1 := hx.length
  have k2 := hy.length
  have h1' : j < its.length := by simpa using h1
  have h2' : j < its2.length := by simpa using h2
  have j1 : j < ds.length := by omega
  have j2 : j < ds'.length := by omega
  obtain ⟨x, ex, rx⟩ := hx.get' (j := j) (d := ds[j]) (by simp [j1])
  obtain ⟨y, ey, ry⟩ := hy.get' (j := j) (d := ds'[j]) (by simp [j2])
  obtain ⟨u, eu, ru⟩ := rv.get ex
  obtain ⟨v, ev, rv'⟩ := rv2.get ey
  have e1 : its.toArray[j] = u := by
    have : its[j]? = some its[j] := by simp [h1']
    rw [this] at eu
    simpa using Option.some.inj eu
  have e2 : its2.toArray[j] = v := by
    have : its2[j]? = some its2[j] := by simp [h2']
    rw [this] at ev
    simpa using Option.some.inj ev
  have e3 : ds.getD j .non = ds[j] := by simp [List.getD_eq_getElem?_getD, j1]
  have e4 : ds'.getD j .non = ds'[j] := by simp [List.getD_eq_getElem?_getD, j2]
  rw [e1, e2, e3, e4]
  exact ih j _ _ x y u v (by simp [j1]) (by simp [j2]) rx ry ru rv'
theorem rc_and_eqK (I : Inv X pins σ H s) : ∀ (n : Nat) (A : Around) (d d' : D) (x y : V) (u v : Value), d.deep ≤ n → A.units + n < cLine → RepK X.K H d x → RepK X.K H d' y → RelV x u → RelV y v →
    RcAt A s u v (deq d d') ∧ EqAt A s u v (deq d d') := by
  intro n
  induction n with
  | zero =>
    intro A d d' x y u v hd hu hx hy ru rv
    have hu' : A.units < cLine := by omega
    cases d with
    | tup ds => simp [D.deep] at hd
    | lst ds => simp [D.deep] at hd
    | non =>
      cases (show x = .non from hx); cases ru
      cases d' with
      | non => cases (show y = .non from hy); cases rv; simp only [deq]; exact ⟨RcAt.none_none, EqAt.same _⟩
      | bl b => cases (show y = .bl b from hy); cases rv; simp only [deq]; exact ⟨RcAt.none_bool b, EqAt.none_bool b⟩
      | int i => cases (show y = .int i from hy); obtain ⟨t, rfl⟩ := rv; simp only [deq]; exact ⟨RcAt.none_int i t, EqAt.none_int i t⟩
      | str i => cases (show y = .str i from hy); obtain ⟨t, rfl⟩ := rv; simp only [deq]; exact ⟨RcAt.none_str i t, EqAt.none_str i t⟩
      | tup ds => obtain ⟨a, xs, rfl, ha, _⟩ := hy; cases rv; obtain ⟨its, r, ht⟩ := I.tupK ha; simp only [deq]; exact ⟨RcAt.none_tuple ht hu', EqAt.none_tuple ht hu'⟩
      | lst ds => obtain ⟨a, xs, rfl, ha, _⟩ := hy; cases rv; obtain ⟨its, r, ht⟩ := I.lstK ha; simp only [deq]; exact ⟨RcAt.none_list ht hu', EqAt.none_list ht hu'⟩
    | bl a =>
      cases (show x = .bl a from hx); cases ru
      cases d' with
      | non => cases (show y = .non from hy); cases rv; simp only [deq]; exact ⟨RcAt.bool_none a, EqAt.bool_none a⟩
      | bl b => cases (show y = .bl b from hy); cases rv; simp only [deq]; exact ⟨RcAt.bool_bool a b, EqAt.bool_bool a b⟩
      | int i => cases (show y = .int i from hy); obtain ⟨t, rfl⟩ := rv; simp only [deq]; exact ⟨RcAt.bool_int a i t, EqAt.bool_int a i t⟩
      | str i => cases (show y = .str i from hy); obtain ⟨t, rfl⟩ := rv; simp only [deq]; exact ⟨RcAt.bool_str a i t, EqAt.bool_str a i t⟩
      | tup ds => obtain ⟨a', xs, rfl, ha, _⟩ := hy; cases rv; obtain ⟨its, r, ht⟩ := I.tupK ha; simp only [deq]; exact ⟨RcAt.bool_tuple a ht hu', EqAt.bool_tuple a ht hu'⟩
      | lst ds => obtain ⟨a', xs, rfl, ha, _⟩ := hy; cases rv; obtain ⟨its, r, ht⟩ := I.lstK ha; simp only [deq]; exact ⟨RcAt.bool_list a ht hu', EqAt.bool_list a ht hu'⟩
    | int a =>
      cases (show x = .int a from hx); obtain ⟨ta, rfl⟩ := ru
      cases d' with
      | non => cases (show y = .non from hy); cases rv; simp only [deq]; exact ⟨RcAt.int_none a ta, EqAt.int_none a ta⟩
      | bl b => cases (show y = .bl b from hy); cases rv; simp only [deq]; exact ⟨RcAt.int_bool a ta b, EqAt.int_bool a ta b⟩
      | int i => cases (show y = .int i from hy); obtain ⟨t, rfl⟩ := rv; simp only [deq]; exact ⟨RcAt.int_int a ta i t, EqAt.int_int a ta i t⟩
      | str i => cases (show y = .str i from hy); obtain ⟨t, rfl⟩ := rv; simp only [deq]; exact ⟨RcAt.int_str a ta i t, EqAt.int_str a ta i t⟩
      | tup ds => obtain ⟨a', xs, rfl, ha, _⟩ := hy; cases rv; obtain ⟨its, r, ht⟩ := I.tupK ha; simp only [deq]; exact ⟨RcAt.int_tuple a ta ht hu', EqAt.int_tuple a ta ht hu'⟩
      | lst ds => obtain ⟨a', xs, rfl, ha, _⟩ := hy; cases rv; obtain ⟨its, r, ht⟩ := I.lstK ha; simp only [deq]; exact ⟨RcAt.int_list a ta ht hu', EqAt.int_list a ta ht hu'⟩
    | str a =>
      cases (show x = .str a from hx); obtain ⟨ta, rfl⟩ := ru
      cases d' with
      | non => cases (show y = .non from hy); cases rv; simp only [deq]; exact ⟨RcAt.str_none a ta, EqAt.str_none a ta⟩
      | bl b => cases (show y = .bl b from hy); cases rv; simp only [deq]; exact ⟨RcAt.str_bool a ta b, EqAt.str_bool a ta b⟩
      | int i => cases (show y = .int i from hy); obtain ⟨t, rfl⟩ := rv; simp only [deq]; exact ⟨RcAt.str_int a ta i t, EqAt.str_int a ta i t⟩
      | str i => cases (show y = .str i from hy); obtain ⟨t, rfl⟩ := rv; simp only [deq]; exact ⟨RcAt.str_str a ta i t, EqAt.str_str a ta i t⟩
      | tup ds => obtain ⟨a', xs, rfl, ha, _⟩ := hy; cases rv; obtain ⟨its, r, ht⟩ := I.tupK ha; simp only [deq]; exact ⟨RcAt.str_tuple a ta ht hu', EqAt.str_tuple a ta ht hu'⟩
      | lst ds => obtain ⟨a', xs, rfl, ha, _⟩ := hy; cases rv; obtain ⟨its, r, ht⟩ := I.lstK ha; simp only [deq]; exact ⟨RcAt.str_list a ta ht hu', EqAt.str_list a ta ht hu'⟩
  | succ n ih =>
    intro A d d' x y u v hd hu hx hy ru rv
    have hu' : A.units < cLine := by omega
    have hin : A.in1.units + n < cLine := by show A.units + 1 + n < cLine; omega
    by_cases h0 : d.deep ≤ n
    · exact ih A d d' x y u v h0 (by omega) hx hy ru rv
    cases d with
    | tup ds =>
      have hds : D.deeps ds ≤ n := by simp [D.deep] at hd; exact hd
      obtain ⟨a, xs, rfl, ha, hs⟩ := id hx
      cases ru
      obtain ⟨its, r, ht⟩ := I.tupK ha
      cases d' with
      | non => cases (show y = .non from hy); cases rv; simp only [deq]; exact ⟨RcAt.tuple_none ht hu', EqAt.tuple_none ht hu'⟩
      | bl b => cases (show y = .bl b from hy); cases rv; simp only [deq]; exact ⟨RcAt.tuple_bool b ht hu', EqAt.tuple_bool b ht hu'⟩
      | int i => cases (show y = .int i from hy); obtain ⟨t, rfl⟩ := rv; simp only [deq]; exact ⟨RcAt.tuple_int i t ht hu', EqAt.tuple_int i t ht hu'⟩
      | str i => cases (show y = .str i from hy); obtain ⟨t, rfl⟩ := rv; simp only [deq]; exact ⟨RcAt.tuple_str i t ht hu', EqAt.tuple_str i t ht hu'⟩
      | lst ds' => obtain ⟨a', xs', rfl, ha', _⟩ := hy; cases rv; obtain ⟨its', r', ht'⟩ := I.lstK ha'; simp only [deq]; exact ⟨RcAt.tuple_list ht ht' hu', EqAt.tuple_list ht ht' hu'⟩
      | tup ds' =>
        obtain ⟨a', xs', rfl, ha', hs'⟩ := id hy
        cases rv
        obtain ⟨its', r', ht'⟩ := I.tupK ha'
        have rc : RcAt A s (.ref a) (.ref a') (deq (.tup ds) (.tup ds')) := by
          have z := RcAt.tuples (A := A) (s := s) (e := fun j => deq (ds.getD j .non) (ds'.getD j .non)) ht ht' hu' (seq_itemsK r r' hs hs' fun j e e' x y u v h1 h2 h3 h4 h5 h6 => (ih A.in1 e e' x y u v (Nat.le_trans (deep_mem h1) hds) hin h3 h4 h5 h6).2)
          have e1 : its.toArray.size = ds.length := by rw [List.size_toArray, ← r.length, hs.length]
          have e2 : its'.toArray.size = ds'.length := by rw [List.size_toArray, ← r'.length, hs'.length]
          rw [e1, e2, deqs_range] at z
          simp only [deq]
          exact z
        refine ⟨rc, ?_⟩
        by_cases hne : a = a'
        · subst hne
          have : D.tup ds = D.tup ds' := RepK.inj I hx hy
          rw [← this, deq_refl]
          exact EqAt.same _
        · exact EqAt.of_refs hne rc
    | lst ds =>
      have hds : D.deeps ds ≤ n := by simp [D.deep] at hd; exact hd
      obtain ⟨a, xs, rfl, ha, hs⟩ := id hx
      cases ru
      obtain ⟨its, r, ht⟩ := I.lstK ha
      cases d' with
      | non => cases (show y = .non from hy); cases rv; simp only [deq]; exact ⟨RcAt.list_none ht hu', EqAt.list_none ht hu'⟩
      | bl b => cases (show y = .bl b from hy); cases rv; simp only [deq]; exact ⟨RcAt.list_bool b ht hu', EqAt.list_bool b ht hu'⟩
      | int i => cases (show y = .int i from hy); obtain ⟨t, rfl⟩ := rv; simp only [deq]; exact ⟨RcAt.list_int i t ht hu', EqAt.list_int i t ht hu'⟩
      | str i => cases (show y = .str i from hy); obtain ⟨t, rfl⟩ := rv; simp only [deq]; exact ⟨RcAt.list_str i t ht hu', EqAt.list_str i t ht hu'⟩
      | tup ds' => obtain ⟨a', xs', rfl, ha', _⟩ := hy; cases rv; obtain ⟨its', r', ht'⟩ := I.tupK ha'; simp only [deq]; exact ⟨RcAt.list_tuple ht ht' hu', EqAt.list_tuple ht ht' hu'⟩
      | lst ds' =>
        obtain ⟨a', xs', rfl, ha', hs'⟩ := id hy
        cases rv
        obtain ⟨its', r', ht'⟩ := I.lstK ha'
        have e1 : its.toArray.size = ds.length := by rw [List.size_toArray, ← r.length, hs.length]
        have e2 : its'.toArray.size = ds'.length := by rw [List.size_toArray, ← r'.length, hs'.length]
        have rc : RcAt A s (.ref a) (.ref a') (deq (.lst ds) (.lst ds')) := by
          simp only [deq]
          by_cases hl : ds.length = ds'.length
          · have z := RcAt.lists (A := A) (s := s) (e := fun j => deq (ds.getD j .non) (ds'.getD j .non)) ht ht' (by rw [e1, e2]; exact hl) hu' (seq_itemsK r r' hs hs' fun j e e' x y u v h1 h2 h3 h4 h5 h6 => (ih A.in1 e e' x y u v (Nat.le_trans (deep_mem h1) hds) hin h3 h4 h5 h6).2)
            have q := deqs_range (ds := ds) (ds' := ds')
            rw [← hl, Nat.min_self, beq_self_eq_true, Bool.and_true] at q
            rw [e1, q] at z
            exact z
          · have z := RcAt.lists_lengths (A := A) (s := s) ht ht' (by rw [e1, e2]; simpa using hl) hu'
            have q := deqs_range (ds := ds) (ds' := ds')
            rw [show (ds.length == ds'.length) = false from beq_eq_false_iff_ne.mpr hl, Bool.and_false] at q
            rw [← q]
            exact z
        refine ⟨rc, ?_⟩
        by_cases hne : a = a'
        · subst hne
          have : D.lst ds = D.lst ds' := RepK.inj I hx hy
          rw [← this, deq_refl]
          exact EqAt.same _
        · exact EqAt.of_refs hne rc
    | _ => exact absurd (by simp [D.deep]) h0

def rEqK (K : PySem.W.Frag) : R2 := fun x y H Q => ∃ d d', RepK K H d x ∧ RepK K H d' y ∧ d.deep ≤ 150 ∧ Q (.bl (deq d d')) H
theorem op_eqK (hu : X.A.units + 150 < cLine) : OpR X (compareOp .Eq) (rEqK X.K) := by
  intro pins s σ H x y v u Q I rx ry h
  obtain ⟨d, d', h1, h2, h3, q⟩ := h
  exact (rc_and_eqK I 150 X.A d d' x y v u h3 hu h1 h2 rx ry).1 X.prog X.w X.xe _ ⟨.bl _, H, I, rfl, q⟩
theorem rc_neK (I : Inv X pins σ H s) (A : Around) (d d' : D) (x y : V) (u v : Value) (hd : d.deep ≤ 150) (hu : A.units + 151 < cLine) (hx : RepK X.K H d x) (hy : RepK X.K H d' y) (ru : RelV x u) (rv : RelV y v) : RcNeAt A s u v (!deq d d') := by
  have hu' : A.units < cLine := by omega
  have hin : A.in1.units + 150 < cLine := by show A.units + 1 + 150 < cLine; omega
  cases d with
  | non =>
    cases (show x = .non from hx); cases ru
    cases d' with
    | non => cases (show y = .non from hy); cases rv; simp only [deq]; exact RcNeAt.none_none
    | bl b2 => cases (show y = .bl b2 from hy); cases rv; simp only [deq]; exact RcNeAt.none_bool b2
    | int b2 => cases (show y = .int b2 from hy); obtain ⟨t2, rfl⟩ := rv; simp only [deq]; exact RcNeAt.none_int b2 t2
    | str b2 => cases (show y = .str b2 from hy); obtain ⟨t2, rfl⟩ := rv; simp only [deq]; exact RcNeAt.none_str b2 t2
    | tup ds2 => obtain ⟨a2, xs2, rfl, ha2, hs2⟩ := id hy; cases rv; obtain ⟨its2, r2, ht2⟩ := I.tupK ha2; simp only [deq]; exact RcNeAt.none_tuple ht2 hu'
    | lst ds2 => obtain ⟨a2, xs2, rfl, ha2, hs2⟩ := id hy; cases rv; obtain ⟨its2, r2, ht2⟩ := I.lstK ha2; simp only [deq]; exact RcNeAt.none_list ht2 hu'
  | bl b1 =>
    cases (show x = .bl b1 from hx); cases ru
    cases d' with
    | non => cases (show y = .non from hy); cases rv; simp only [deq]; exact RcNeAt.bool_none b1
    | bl b2 => cases (show y = .bl b2 from hy); cases rv; simp only [deq]; exact RcNeAt.bool_bool b1 b2
    | int b2 => cases (show y = .int b2 from hy); obtain ⟨t2, rfl⟩ := rv; simp only [deq]; exact RcNeAt.bool_int b1 b2 t2
    | str b2 => cases (show y = .str b2 from hy); obtain ⟨t2, rfl⟩ := rv; simp only [deq]; exact RcNeAt.bool_str b1 b2 t2
    | tup ds2 => obtain ⟨a2, xs2, rfl, ha2, hs2⟩ := id hy; cases rv; obtain ⟨its2, r2, ht2⟩ := I.tupK ha2; simp only [deq]; exact RcNeAt.bool_tuple b1 ht2 hu'
    | lst ds2 => obtain ⟨a2, xs2, rfl, ha2, hs2⟩ := id hy; cases rv; obtain ⟨its2, r2, ht2⟩ := I.lstK ha2; simp only [deq]; exact RcNeAt.bool_list b1 ht2 hu'
  | int b1 =>
    cases (show x = .int b1 from hx); obtain ⟨t1, rfl⟩ := ru
    cases d' with
    | non => cases (show y = .non from hy); cases rv; simp only [deq]; exact RcNeAt.int_none b1 t1
    | bl b2 => cases (show y = .bl b2 from hy); cases rv; simp only [deq]; exact RcNeAt.int_bool b1 t1 b2
    | int b2 => cases (show y = .int b2 from hy); obtain ⟨t2, rfl⟩ := rv; simp only [deq]; exact RcNeAt.int_int b1 t1 b2 t2
    | str b2 => cases (show y = .str b2 from hy); obtain ⟨t2, rfl⟩ := rv; simp only [deq]; exact RcNeAt.int_str b1 t1 b2 t2
    | tup ds2 => obtain ⟨a2, xs2, rfl, ha2, hs2⟩ := id hy; cases rv; obtain ⟨its2, r2, ht2⟩ := I.tupK ha2; simp only [deq]; exact RcNeAt.int_tuple b1 t1 ht2 hu'
    | lst ds2 => obtain ⟨a2, xs2, rfl, ha2, hs2⟩ := id hy; cases rv; obtain ⟨its2, r2, ht2⟩ := I.lstK ha2; simp only [deq]; exact RcNeAt.int_list b1 t1 ht2 hu'
  | str b1 =>
    cases (show x = .str b1 from hx); obtain ⟨t1, rfl⟩ := ru
    cases d' with
    | non => cases (show y = .non from hy); cases rv; simp only [deq]; exact RcNeAt.str_none b1 t1
    | bl b2 => cases (show y = .bl b2 from hy); cases rv; simp only [deq]; exact RcNeAt.str_bool b1 t1 b2
    | int b2 => cases (show y = .int b2 from hy); obtain ⟨t2, rfl⟩ := rv; simp only [deq]; exact RcNeAt.str_int b1 t1 b2 t2
    | str b2 => cases (show y = .str b2 from hy); obtain ⟨t2, rfl⟩ := rv; simp only [deq]; exact RcNeAt.str_str b1 t1 b2 t2
    | tup ds2 => obtain ⟨a2, xs2, rfl, ha2, hs2⟩ := id hy; cases rv; obtain ⟨its2, r2, ht2⟩ := I.tupK ha2; simp only [deq]; exact RcNeAt.str_tuple b1 t1 ht2 hu'
    | lst ds2 => obtain ⟨a2, xs2, rfl, ha2, hs2⟩ := id hy; cases rv; obtain ⟨its2, r2, ht2⟩ := I.lstK ha2; simp only [deq]; exact RcNeAt.str_list b1 t1 ht2 hu'
  | tup ds1 =>
    obtain ⟨a1, xs1, rfl, ha1, hs1⟩ := id hx; cases ru; obtain ⟨its1, r1, ht1⟩ := I.tupK ha1
    cases d' with
    | non => cases (show y = .non from hy); cases rv; simp only [deq]; exact RcNeAt.tuple_none ht1 hu'
    | bl b2 => cases (show y = .bl b2 from hy); cases rv; simp only [deq]; exact RcNeAt.tuple_bool b2 ht1 hu'
    | int b2 => cases (show y = .int b2 from hy); obtain ⟨t2, rfl⟩ := rv; simp only [deq]; exact RcNeAt.tuple_int b2 t2 ht1 hu'
    | str b2 => cases (show y = .str b2 from hy); obtain ⟨t2, rfl⟩ := rv; simp only [deq]; exact RcNeAt.tuple_str b2 t2 ht1 hu'
    | tup ds2 =>
      obtain ⟨a2, xs2, rfl, ha2, hs2⟩ := id hy; cases rv; obtain ⟨its2, r2, ht2⟩ := I.tupK ha2
      have hds : D.deeps ds1 ≤ 150 := by have := hd; simp [D.deep] at this; omega
      have z := RcNeAt.tuples (A := A) (s := s) (e := fun j => deq (ds1.getD j .non) (ds2.getD j .non)) ht1 ht2 hu' (seq_itemsK r1 r2 hs1 hs2 fun j e e' x y u v h1 h2 h3 h4 h5 h6 => (rc_and_eqK I 150 A.in1 e e' x y u v (Nat.le_trans (deep_mem h1) hds) hin h3 h4 h5 h6).2)
      have e1 : its1.toArray.size = ds1.length := by rw [List.size_toArray, ← r1.length, hs1.length]
      have e2 : its2.toArray.size = ds2.length := by rw [List.size_toArray, ← r2.length, hs2.length]
      rw [e1, e2, deqs_range] at z
      simp only [deq]
      exact z
    | lst ds2 => obtain ⟨a2, xs2, rfl, ha2, hs2⟩ := id hy; cases rv; obtain ⟨its2, r2, ht2⟩ := I.lstK ha2; simp only [deq]; exact RcNeAt.tuple_list ht1 ht2 hu'
  | lst ds1 =>
    obtain ⟨a1, xs1, rfl, ha1, hs1⟩ := id hx; cases ru; obtain ⟨its1, r1, ht1⟩ := I.lstK ha1
    cases d' with
    | non => cases (show y = .non from hy); cases rv; simp only [deq]; exact RcNeAt.list_none ht1 hu'
    | bl b2 => cases (show y = .bl b2 from hy); cases rv; simp only [deq]; exact RcNeAt.list_bool b2 ht1 hu'
    | int b2 => cases (show y = .int b2 from hy); obtain ⟨t2, rfl⟩ := rv; simp only [deq]; exact RcNeAt.list_int b2 t2 ht1 hu'
    | str b2 => cases (show y = .str b2 from hy); obtain ⟨t2, rfl⟩ := rv; simp only [deq]; exact RcNeAt.list_str b2 t2 ht1 hu'
    | tup ds2 => obtain ⟨a2, xs2, rfl, ha2, hs2⟩ := id hy; cases rv; obtain ⟨its2, r2, ht2⟩ := I.tupK ha2; simp only [deq]; exact RcNeAt.list_tuple ht1 ht2 hu'
    | lst ds2 =>
      obtain ⟨a2, xs2, rfl, ha2, hs2⟩ := id hy; cases rv; obtain ⟨its2, r2, ht2⟩ := I.lstK ha2
      have hds : D.deeps ds1 ≤ 150 := by have := hd; simp [D.deep] at this; omega
      have e1 : its1.toArray.size = ds1.length := by rw [List.size_toArray, ← r1.length, hs1.length]
      have e2 : its2.toArray.size = ds2.length := by rw [List.size_toArray, ← r2.length, hs2.length]
      simp only [deq]
      by_cases hl : ds1.length = ds2.length
      · have z := RcNeAt.lists (A := A) (s := s) (e := fun j => deq (ds1.getD j .non) (ds2.getD j .non)) ht1 ht2 (by rw [e1, e2]; exact hl) hu' (seq_itemsK r1 r2 hs1 hs2 fun j e e' x y u v h1 h2 h3 h4 h5 h6 => (rc_and_eqK I 150 A.in1 e e' x y u v (Nat.le_trans (deep_mem h1) hds) hin h3 h4 h5 h6).2)
        have q := deqs_range (ds := ds1) (ds' := ds2)
        rw [← hl, Nat.min_self, beq_self_eq_true, Bool.and_true] at q
        rw [e1, q] at z
        exact z
      · have z := RcNeAt.lists_lengths (A := A) (s := s) ht1 ht2 (by rw [e1, e2]; simpa using hl) hu'
        have q := deqs_range (ds := ds1) (ds' := ds2)
        rw [show (ds1.length == ds2.length) = false from beq_eq_false_iff_ne.mpr hl, Bool.and_false] at q
        rw [← q]
        exact z
def rNeK (K : PySem.W.Frag) : R2 := fun x y H Q => ∃ d d', RepK K H d x ∧ RepK K H d' y ∧ d.deep ≤ 150 ∧ Q (.bl (!deq d d')) H
theorem op_neK (hu : X.A.units + 151 < cLine) : OpR X (compareOp .NotEq) (rNeK X.K) := by
  intro pins s σ H x y v u Q I rx ry h
  obtain ⟨d, d', h1, h2, h3, q⟩ := h
  exact rc_neK I X.A d d' x y v u h3 hu h1 h2 rx ry X.prog X.w X.xe _ ⟨.bl _, H, I, rfl, q⟩
noncomputable def eOfK (K : PySem.W.Frag) (H : Hp) (d : D) (y : Value) : Bool := @decide (∃ (d' : D) (v' : V), RelV v' y ∧ RepK K H d' v' ∧ deq d' d = true) (Classical.propDecidable _)
theorem eOfK_eq (I : Inv X pins σ H s) {d d' : D} {v' : V} {y : Value} (r : RelV v' y) (h : RepK X.K H d' v') : eOfK X.K H d y = deq d' d := by
  unfold eOfK
  cases e : deq d' d with
  | true => exact @decide_eq_true _ (Classical.propDecidable _) ⟨d', v', r, h, e⟩
  | false =>
    refine @decide_eq_false _ (Classical.propDecidable _) ?_
    rintro ⟨d2, v2, r2, h2, e2⟩
    rw [r2.inj r] at h2
    rw [RepK.inj I h2 h, e] at e2
    cases e2
theorem any_eOfK (I : Inv X pins σ H s) {d : D} : ∀ {ds : List D} {xs : List V} {us : List Value}, Vals xs us → RepKs X.K H ds xs → us.any (eOfK X.K H d) = ds.any fun e => deq e d
  | [], xs, us, r, h => by cases (show xs = [] from h); cases r; rfl
  | e :: ds, xs, us, r, h => by
    obtain ⟨x, xr, rfl, h1, h2⟩ := h
    cases r with
    | cons r1 r2 => rw [List.any_cons, List.any_cons, eOfK_eq I r1 h1, any_eOfK I r2 h2]
theorem mem_eOfK (I : Inv X pins σ H s) {A : Around} (hu : A.units + 150 < cLine) {d : D} {x : V} {v : Value} (rx : RelV x v) (hx : RepK X.K H d x) : ∀ {ds : List D} {xs : List V} {us : List Value}, Vals xs us → RepKs X.K H ds xs → D.deeps ds ≤ 150 → ∀ u ∈ us, EqAt A s u v (eOfK X.K H d u)
  | [], xs, us, r, h, _, u, hm => by cases (show xs = [] from h); cases r; cases hm
  | e :: ds, xs, us, r, h, hd, u, hm => by
    obtain ⟨y, xr, rfl, h1, h2⟩ := h
    have hd' : e.deep ≤ 150 ∧ D.deeps ds ≤ 150 := by simp [D.deeps] at hd; omega
    cases r with
    | cons r1 r2 =>
      rcases List.mem_cons.mp hm with rfl | hm
      · rw [eOfK_eq I r1 h1]
        exact (rc_and_eqK I 150 A e d y x u v hd'.1 hu h1 hx r1 rx).2
      · exact mem_eOfK I hu rx hx r2 h2 hd'.2 u hm
def rInK (K : PySem.W.Frag) (neg : Bool) : R2 := fun x y H Q => ∃ (p : Addr) (xs : List V) (ds : List D) (d : D), y = .ref p ∧ (SqL K H p xs ∨ SqT K H p xs) ∧ RepKs K H ds xs ∧ RepK K H d x ∧ D.deeps ds ≤ 150 ∧ Q (.bl (if neg then !(ds.any fun e => deq e d) else ds.any fun e => deq e d)) H
theorem op_inK (hu : X.A.units + 151 < cLine) : OpR X (compareOp .In) (rInK X.K false) := by
  intro pins s σ H x y v u Q I rx ry h
  obtain ⟨p, xs, ds, d, rfl, hq, hs, hx, hd, q⟩ := h
  cases ry
  have hu' : X.A.in1.units + 150 < cLine := by show X.A.units + 1 + 150 < cLine; omega
  rcases hq with hq | hq
  · obtain ⟨its, r, pl⟩ := I.lstK hq
    refine SeqAt.in_listAt (eOfK X.K H d) pl (fun w hw => mem_eOfK I hu' rx hx r hs hd w (by simpa using hw)) ⟨.bl _, H, I, rfl, ?_⟩
    rw [show its.toArray.any (eOfK X.K H d) = its.any (eOfK X.K H d) by simp, any_eOfK I r hs]
    exact q
  · obtain ⟨its, r, pl⟩ := I.tupK hq
    refine SeqAt.in_tupleAt (eOfK X.K H d) pl (fun w hw => mem_eOfK I hu' rx hx r hs hd w (by simpa using hw)) ⟨.bl _, H, I, rfl, ?_⟩
    rw [show its.toArray.any (eOfK X.K H d) = its.any (eOfK X.K H d) by simp, any_eOfK I r hs]
    exact q
theorem op_notInK (hu : X.A.units + 151 < cLine) : OpR X (compareOp .NotIn) (rInK X.K true) := by
  intro pins s σ H x y v u Q I rx ry h
  obtain ⟨p, xs, ds, d, rfl, hq, hs, hx, hd, q⟩ := h
  cases ry
  have hu' : X.A.in1.units + 150 < cLine := by show X.A.units + 1 + 150 < cLine; omega
  rcases hq with hq | hq
  · obtain ⟨its, r, pl⟩ := I.lstK hq
    refine SeqAt.notIn_listAt (eOfK X.K H d) pl (fun w hw => mem_eOfK I hu' rx hx r hs hd w (by simpa using hw)) ⟨.bl _, H, I, rfl, ?_⟩
    rw [show its.toArray.any (eOfK X.K H d) = its.any (eOfK X.K H d) by simp, any_eOfK I r hs]
    exact q
  · obtain ⟨its, r, pl⟩ := I.tupK hq
    refine SeqAt.notIn_tupleAt (eOfK X.K H d) pl (fun w hw => mem_eOfK I hu' rx hx r hs hd w (by simpa using hw)) ⟨.bl _, H, I, rfl, ?_⟩
    rw [show its.toArray.any (eOfK X.K H d) = its.any (eOfK X.K H d) by simp, any_eOfK I r hs]
    exact q
end
end L2
set_option Elab.async false
set_option linter.all false
set_option maxRecDepth 100000
namespace L2
open PySem PySem.Spec PyProof.Rows
mutual
def toDB (f : Nat → Option D) : M → Option D
  | .non => some .non
  | .bl b => some (.bl b)
  | .int i => some (.int i)
  | .str x => some (.str x)
  | .tup xs => (toDBs f xs).map .tup
  | .lst xs => (toDBs f xs).map .lst
  | .ref k => f k
  | .scr ns => some (.lst (ns.map D.int))
  | _ => none
def toDBs (f : Nat → Option D) : List M → Option (List D)
  | [] => some []
  | x :: xs => (toDB f x).bind fun d => (toDBs f xs).map (d :: ·)
end
def lookD (h : HpM) : Nat → Nat → Option D
  | 0, _ => none
  | q + 1, k => match h[k]? with | some (.lst xs) => (toDBs (lookD h q) xs).map .lst | _ => none
def toD (h : HpM) : M → Option D := toDB (lookD h 20)
def toDs (h : HpM) : List M → Option (List D) := toDBs (lookD h 20)
theorem RepKs.ints {K : PySem.W.Frag} {H : Hp} : ∀ {ns : List Int}, RepKs K H (ns.map D.int) (ns.map V.int)
  | [] => rfl
  | n :: ns => ⟨_, _, rfl, rfl, RepKs.ints⟩
mutual
theorem toDB_rep {K : PySem.W.Frag} {α : Pl} {H : Hp} {f : Nat → Option D} (hf : ∀ k d v, f k = some d → RepA K α H (.ref k) v → RepK K H d v) : ∀ {m : M} {d : D} {v : V}, toDB f m = some d → RepA K α H m v → RepK K H d v
  | .non, _, _, e, r => by cases e; exact r
  | .bl b, _, _, e, r => by cases e; exact r
  | .int b, _, _, e, r => by cases e; exact r
  | .str b, _, _, e, r => by cases e; exact r
  | .tup xs, _, _, e, r => by
    obtain ⟨ds, e1, e2⟩ := Option.map_eq_some_iff.mp e
    subst e2
    obtain ⟨a, vs, e3, t, rs⟩ := r
    exact ⟨a, vs, e3, t.sq, toDBs_rep hf e1 rs⟩
  | .lst xs, _, _, e, r => by
    obtain ⟨ds, e1, e2⟩ := Option.map_eq_some_iff.mp e
    subst e2
    obtain ⟨a, vs, e3, n, t, rs⟩ := r
    exact ⟨a, vs, e3, .of t, toDBs_rep hf e1 rs⟩
  | .ref k, _, _, e, r => hf k _ _ e r
  | .scr ns, _, _, e, r => by
    cases e
    obtain ⟨a, e3, t⟩ := r
    exact ⟨a, _, e3, t.sq, RepKs.ints⟩
  | .ty _, _, _, e, _ => by cases e
  | .dct _ _, _, _, e, _ => by cases e
theorem toDBs_rep {K : PySem.W.Frag} {α : Pl} {H : Hp} {f : Nat → Option D} (hf : ∀ k d v, f k = some d → RepA K α H (.ref k) v → RepK K H d v) : ∀ {m : List M} {d : List D} {v : List V}, toDBs f m = some d → RepAs K α H m v → RepKs K H d v
  | [], _, _, e, r => by cases e; exact r
  | x :: xs, _, _, e, r => by
    obtain ⟨d, e1, e2⟩ := Option.bind_eq_some_iff.mp e
    obtain ⟨ds, e3, e4⟩ := Option.map_eq_some_iff.mp e2
    subst e4
    obtain ⟨v, vs, rfl, h1, h2⟩ := r
    exact ⟨v, vs, rfl, toDB_rep hf e1 h1, toDBs_rep hf e3 h2⟩
end
theorem lookD_rep {K : PySem.W.Frag} {α : Pl} {h : HpM} {H : Hp} (hr : Rl K α h H) : ∀ (q k : Nat) (d : D) (v : V), lookD h q k = some d → RepA K α H (.ref k) v → RepK K H d v
  | 0, _, _, _, e, _ => by cases e
  | q + 1, k, d, v, e, ⟨a, ha, e2⟩ => by
    unfold lookD at e
    split at e
    · rename_i xs hx
      obtain ⟨ds, e3, e4⟩ := Option.map_eq_some_iff.mp e
      subst e4
      obtain ⟨vs, hv, rs⟩ := hr.obj k a _ ha hx
      exact ⟨a, vs, e2, .of hv, toDBs_rep (fun k d v => lookD_rep hr q k d v) e3 rs⟩
    · cases e
theorem toD_rep {K : PySem.W.Frag} {α : Pl} {h : HpM} {H : Hp} {m : M} {d : D} {v : V} (hr : Rl K α h H) (e : toD h m = some d) (r : RepA K α H m v) : RepK K H d v := toDB_rep (fun k d v => lookD_rep hr 20 k d v) e r
theorem toDs_rep {K : PySem.W.Frag} {α : Pl} {h : HpM} {H : Hp} {m : List M} {d : List D} {v : List V} (hr : Rl K α h H) (e : toDs h m = some d) (r : RepAs K α H m v) : RepKs K H d v := toDBs_rep (fun k d v => lookD_rep hr 20 k d v) e r
def opEq (x y : M) (h : HpM) : Option M := (toD h x).bind fun d => (toD h y).bind fun d' => if d.deep ≤ 150 then some (.bl (deq d d')) else none
def opNe (x y : M) (h : HpM) : Option M := (toD h x).bind fun d => (toD h y).bind fun d' => if d.deep ≤ 150 then some (.bl (!deq d d')) else none
section
variable {X : Cx} {K : PySem.W.Frag}
theorem fm_eq : OpM K (rEqK K) opEq := by
  intro α h H x y d u v Q hr rx ry e k
  obtain ⟨d1, e1, e⟩ := Option.bind_eq_some_iff.mp e
  obtain ⟨d2, e2, e⟩ := Option.bind_eq_some_iff.mp e
  split at e
  · rename_i hd
    cases e
    exact ⟨d1, d2, toD_rep hr e1 rx, toD_rep hr e2 ry, hd, k H _ (Same.refl _) rfl⟩
  · cases e
theorem fm_ne : OpM K (rNeK K) opNe := by
  intro α h H x y d u v Q hr rx ry e k
  obtain ⟨d1, e1, e⟩ := Option.bind_eq_some_iff.mp e
  obtain ⟨d2, e2, e⟩ := Option.bind_eq_some_iff.mp e
  split at e
  · rename_i hd
    cases e
    exact ⟨d1, d2, toD_rep hr e1 rx, toD_rep hr e2 ry, hd, k H _ (Same.refl _) rfl⟩
  · cases e
def subIn (i j : Str) : Bool := !(Builtin.Str.occurrences j i 0 j.length 1).isEmpty
def anyD (x : M) (xs : List M) (h : HpM) (f : Bool → M) : Option M := (toDs h xs).bind fun ds => (toD h x).bind fun d => if D.deeps ds ≤ 150 then some (f (ds.any fun e => deq e d)) else none
def opIn (x y : M) (h : HpM) : Option M := match dctOf h y with
  | some kvs => (keyM x).map fun k => .bl (valM kvs k).isSome
  | none => (match y with
  | .str j => (match x with | .str i => some (.bl (subIn i j)) | _ => none)
  | .tup xs => anyD x xs h fun b => .bl b
  | y => (seqR h y).bind fun xs => anyD x xs h fun b => .bl b)
def opNotIn (x y : M) (h : HpM) : Option M := match dctOf h y with
  | some kvs => (keyM x).map fun k => .bl (!(valM kvs k).isSome)
  | none => (match y with
  | .str j => (match x with | .str i => some (.bl (!subIn i j)) | _ => none)
  | .tup xs => anyD x xs h fun b => .bl (!b)
  | y => (seqR h y).bind fun xs => anyD x xs h fun b => .bl (!b))
def rInDct : R2 := fun x y H Q => ∃ a o, y = .ref a ∧ DGet H a x o ∧ Q (.bl o.isSome) H
def rNotInDct : R2 := fun x y H Q => ∃ a o, y = .ref a ∧ DGet H a x o ∧ Q (.bl (!o.isSome)) H
theorem op_inDct (hu : X.A.units + 1 < cLine) : OpR X (compareOp .In) rInDct := by
  intro pins s σ H x y v u Q I rx ry q
  obtain ⟨a, o, rfl, g, q⟩ := q
  cases (show u = .ref a from ry)
  exact d_in hu I g rx fun s' I' => ⟨.bl o.isSome, H, I', rfl, q⟩
theorem op_notInDct (hu : X.A.units + 1 < cLine) : OpR X (compareOp .NotIn) rNotInDct := by
  intro pins s σ H x y v u Q I rx ry q
  obtain ⟨a, o, rfl, g, q⟩ := q
  cases (show u = .ref a from ry)
  exact d_notIn hu I g rx fun s' I' => ⟨.bl (!o.isSome), H, I', rfl, q⟩
def rInM (K : PySem.W.Frag) : R2 := fun x y H Q => rInDct x y H Q ∨ rInK K false x y H Q ∨ ∃ i j, x = .str i ∧ y = .str j ∧ Q (.bl (!(Builtin.Str.occurrences j i 0 j.length 1).isEmpty)) H
def rNotInM (K : PySem.W.Frag) : R2 := fun x y H Q => rNotInDct x y H Q ∨ rInK K true x y H Q ∨ ∃ i j, x = .str i ∧ y = .str j ∧ Q (.bl (!(!(Builtin.Str.occurrences j i 0 j.length 1).isEmpty))) H
theorem op_inM (hu : X.A.units + 151 < cLine) : OpR X (compareOp .In) (rInM X.K) := (op_inDct (by omega)).or ((op_inK hu).or op_in_str)
theorem op_notInM (hu : X.A.units + 151 < cLine) : OpR X (compareOp .NotIn) (rNotInM X.K) := (op_notInDct (by omega)).or ((op_notInK hu).or op_notIn_str)
theorem anyD_inv {x : M} {xs : List M} {h : HpM} {f : Bool → M} {d : M} (e : anyD x xs h f = some d) : ∃ ds dx, toDs h xs = some ds ∧ toD h x = some dx ∧ D.deeps ds ≤ 150 ∧ d = f (ds.any fun e => deq e dx) := by
  obtain ⟨ds, e1, e⟩ := Option.bind_eq_some_iff.mp e
  obtain ⟨dx, e2, e⟩ := Option.bind_eq_some_iff.mp e
  split at e
  · rename_i hd; cases e; exact ⟨ds, dx, e1, e2, hd, rfl⟩
  · cases e
theorem fm_in : OpM K (rInM K) opIn := by
  intro α h H x y d u v Q hr rx ry e k
  unfold opIn at e
  split at e
  · rename_i kvs hk
    obtain ⟨key, e1, e2⟩ := Option.map_eq_some_iff.mp e
    subst e2
    obtain ⟨a, ws, rfl, ha, ek, rs⟩ := dctOf_rep hr ry hk
    cases (keyM_rep e1 rx)
    exact .inl ⟨a, _, rfl, (.inl ⟨_, _, ha, rfl, rfl⟩), by rw [(valM_rep key ek rs).1]; exact k H _ (Same.refl _) rfl⟩
  refine .inr ?_
  split at e
  · split at e
    · cases e
      exact .inr ⟨_, _, rx, ry, k H _ (Same.refl _) rfl⟩
    · cases e
  · obtain ⟨ds, dx, e1, e2, hd, rfl⟩ := anyD_inv e
    obtain ⟨a, vs, rfl, t, rs⟩ := ry
    exact .inl ⟨a, vs, ds, dx, rfl, .inr t.sq, toDs_rep hr e1 rs, toD_rep hr e2 rx, hd, k H _ (Same.refl _) rfl⟩
  · obtain ⟨xs, e0, e⟩ := Option.bind_eq_some_iff.mp e
    obtain ⟨ds, dx, e1, e2, hd, rfl⟩ := anyD_inv e
    obtain ⟨a, vs, rfl, t, rs⟩ := seqR_rep hr ry e0
    exact .inl ⟨a, vs, ds, dx, rfl, .inl t, toDs_rep hr e1 rs, toD_rep hr e2 rx, hd, k H _ (Same.refl _) rfl⟩
theorem fm_notIn : OpM K (rNotInM K) opNotIn := by
  intro α h H x y d u v Q hr rx ry e k
  unfold opNotIn at e
  split at e
  · rename_i kvs hk
    obtain ⟨key, e1, e2⟩ := Option.map_eq_some_iff.mp e
    subst e2
    obtain ⟨a, ws, rfl, ha, ek, rs⟩ := dctOf_rep hr ry hk
    cases (keyM_rep e1 rx)
    exact .inl ⟨a, _, rfl, (.inl ⟨_, _, ha, rfl, rfl⟩), by rw [(valM_rep key ek rs).1]; exact k H _ (Same.refl _) rfl⟩
  refine .inr ?_
  split at e
  · split at e
    · cases e
      exact .inr ⟨_, _, rx, ry, k H _ (Same.refl _) rfl⟩
    · cases e
  · obtain ⟨ds, dx, e1, e2, hd, rfl⟩ := anyD_inv e
    obtain ⟨a, vs, rfl, t, rs⟩ := ry
    exact .inl ⟨a, vs, ds, dx, rfl, .inr t.sq, toDs_rep hr e1 rs, toD_rep hr e2 rx, hd, k H _ (Same.refl _) rfl⟩
  · obtain ⟨xs, e0, e⟩ := Option.bind_eq_some_iff.mp e
    obtain ⟨ds, dx, e1, e2, hd, rfl⟩ := anyD_inv e
    obtain ⟨a, vs, rfl, t, rs⟩ := seqR_rep hr ry e0
    exact .inl ⟨a, vs, ds, dx, rfl, .inl t, toDs_rep hr e1 rs, toD_rep hr e2 rx, hd, k H _ (Same.refl _) rfl⟩
def bLen (xs : List M) (h : HpM) : Option M := match xs with
  | [.str z] => if z.length ≤ 16777216 then some (.int z.length) else none
  | [.tup ys] => some (.int ys.length)
  | [.dct ks ys] => some (.int ks.length)
  | [x] => (match seqR h x with
    | some ys => some (.int ys.length)
    | none => (dctOf h x).map fun kvs => .int kvs.length)
  | _ => none
def rLenM (K : PySem.W.Frag) : List V → Hp → VK → Prop := fun xs H Q => (∃ z, xs = [.str z] ∧ z.length ≤ sizeLine ∧ Q (.int z.length) H) ∨ (∃ p ys, xs = [.ref p] ∧ (SqL K H p ys ∨ SqT K H p ys) ∧ Q (.int ys.length) H) ∨ ∃ a kvs, xs = [V.ref a] ∧ Rd H a (.dK kvs) ∧ Q (.int kvs.length) H
theorem call_lenM : CallR X (.builtin "len") (rLenM X.K) := by
  intro pins s σ H xs us Q I r h
  rcases h with h | h | h
  · exact call_len_str pins s σ H _ us Q I r h
  · exact call_len_seq pins s σ H _ us Q I r h
  · obtain ⟨a, kvs, rfl, ha, q⟩ := h
    obtain ⟨u, rfl, ru⟩ := vals1 r
    cases ru
    exact d_len I ha fun t s' I' => ⟨.int kvs.length, H, I', ⟨t, rfl⟩, q⟩
theorem rep1 {α : Pl} {H : Hp} {x : M} {us : List V} (r : RepAs K α H [x] us) : ∃ u, us = [u] ∧ RepA K α H x u := by
  obtain ⟨u, q, rfl, h1, h2⟩ := r
  cases (show q = [] from h2)
  exact ⟨u, rfl, h1⟩
theorem rep2 {α : Pl} {H : Hp} {x y : M} {us : List V} (r : RepAs K α H [x, y] us) : ∃ u v, us = [u, v] ∧ RepA K α H x u ∧ RepA K α H y v := by
  obtain ⟨u, q, rfl, h1, h2⟩ := r
  obtain ⟨v, rfl, h3⟩ := rep1 h2
  exact ⟨u, v, rfl, h1, h3⟩
theorem fm_len : CallM K (rLenM K) bLen := by
  intro α h H xs d us Q hr rs e k
  unfold bLen at e
  split at e
  · split at e
    · rename_i hl
      cases e
      obtain ⟨u, rfl, ru⟩ := rep1 rs
      cases (show u = .str _ from ru)
      exact .inl ⟨_, rfl, by rw [sizeLine_eq]; exact hl, k H _ (Same.refl _) rfl⟩
    · cases e
  · cases e
    obtain ⟨u, rfl, a, vs, rfl, t, rv⟩ := rep1 rs
    exact .inr (.inl ⟨a, vs, rfl, .inr t.sq, k H _ (Same.refl _) (by rw [rv.length]; rfl)⟩)
  · cases e
    obtain ⟨u, rfl, a, ws, rfl, n, ha, ek, rv⟩ := rep1 rs
    exact .inr (.inr ⟨a, ws, rfl, ha, k H _ (Same.refl _) (by rw [← ek, List.length_map]; rfl)⟩)
  · obtain ⟨u, rfl, ru⟩ := rep1 rs
    split at e
    · rename_i ys hy
      cases e
      obtain ⟨a, vs, rfl, t, rv⟩ := seqR_rep hr ru hy
      exact .inr (.inl ⟨a, vs, rfl, .inl t, k H _ (Same.refl _) (by rw [rv.length]; rfl)⟩)
    · obtain ⟨kvs, e1, e2⟩ := Option.map_eq_some_iff.mp e
      subst e2
      obtain ⟨a, ws, rfl, ha, ek, rv⟩ := dctOf_rep hr ru e1
      refine .inr (.inr ⟨a, ws, rfl, ha, k H _ (Same.refl _) ?_⟩)
      have : ws.length = kvs.length := by have := congrArg List.length ek; simpa using this
      rw [this]; rfl
  · cases e
def bAbs (xs : List M) (_ : HpM) : Option M := match xs with | [.int i] => some (.int (if i < 0 then -i else i)) | _ => none
theorem fm_abs : CallM K (fun xs H Q => ∃ i, xs = [.int i] ∧ Q (.int (if i < 0 then -i else i)) H) bAbs := by
  intro α h H xs d us Q hr rs e k
  unfold bAbs at e
  split at e
  · cases e
    obtain ⟨u, rfl, ru⟩ := rep1 rs
    cases (show u = .int _ from ru)
    exact ⟨_, rfl, k H _ (Same.refl _) rfl⟩
  · cases e
def bInt (xs : List M) (_ : HpM) : Option M := match xs with | [.int i] => some (.int i) | [.bl b] => some (.int (if b then 1 else 0)) | _ => none
theorem fm_int : CallM K (fun xs H Q => (∃ i, xs = [.int i] ∧ Q (.int i) H) ∨ ∃ k, xs = [.bl k] ∧ Q (.int (if k then 1 else 0)) H) bInt := by
  intro α h H xs d us Q hr rs e k
  unfold bInt at e
  split at e
  · cases e
    obtain ⟨u, rfl, ru⟩ := rep1 rs
    cases (show u = .int _ from ru)
    exact .inl ⟨_, rfl, k H _ (Same.refl _) rfl⟩
  · cases e
    obtain ⟨u, rfl, ru⟩ := rep1 rs
    cases (show u = .bl _ from ru)
    exact .inr ⟨_, rfl, k H _ (Same.refl _) rfl⟩
  · cases e
def bls : List M → Option (List Bool)
  | [] => some []
  | .bl b :: r => (bls r).map (b :: ·)
  | _ => none
theorem bls_rep {α : Pl} {H : Hp} : ∀ {xs : List M} {bs : List Bool} {vs : List V}, bls xs = some bs → RepAs K α H xs vs → vs = bs.map V.bl
  | [], _, vs, e, r => by cases e; exact r
  | .bl b :: xs, _, vs, e, r => by
    obtain ⟨cs, e1, e2⟩ := Option.map_eq_some_iff.mp e
    subst e2
    obtain ⟨v, q, rfl, h1, h2⟩ := r
    rw [bls_rep e1 h2, show v = .bl b from h1]
    rfl
  | .non :: _, _, _, e, _ | .int _ :: _, _, _, e, _ | .str _ :: _, _, _, e, _ | .ty _ :: _, _, _, e, _ | .tup _ :: _, _, _, e, _ | .lst _ :: _, _, _, e, _ | .dct _ _ :: _, _, _, e, _ | .ref _ :: _, _, _, e, _ | .scr _ :: _, _, _, e, _ => by cases e
def bAll (xs : List M) (h : HpM) : Option M := match xs with | [x] => (seqL h x).bind fun ys => (bls ys).map fun bs => .bl (bs.all id) | _ => none
theorem fm_all : CallM K (fun xs H Q => ∃ (p : Addr) (bs : List Bool), xs = [.ref p] ∧ H p = some (.lst (bs.map V.bl)) ∧ Q (.bl (bs.all id)) H) bAll := by
  intro α h H xs d us Q hr rs e k
  unfold bAll at e
  split at e
  · obtain ⟨ys, e1, e⟩ := Option.bind_eq_some_iff.mp e
    obtain ⟨bs, e2, e3⟩ := Option.map_eq_some_iff.mp e
    subst e3
    obtain ⟨u, rfl, ru⟩ := rep1 rs
    obtain ⟨a, vs, rfl, ha, rv⟩ := seqL_rep hr ru e1
    rw [bls_rep e2 rv] at ha
    exact ⟨a, bs, rfl, ha, k H _ (Same.refl _) rfl⟩
  · cases e
def bTuple (xs : List M) (h : HpM) : Option M := match xs with | [.tup ys] => some (.tup ys) | [x] => (seqR h x).map .tup | _ => none
theorem fm_tuple : CallM K (fun xs H Q => ∃ p ys, xs = [.ref p] ∧ ((SqL K H p ys ∧ ∀ l, H l = none → Q (.ref l) (upd H l (.tup ys))) ∨ (SqT K H p ys ∧ Q (.ref p) H))) bTuple := by
  intro α h H xs d us Q hr rs e k
  unfold bTuple at e
  split at e
  · cases e
    obtain ⟨u, rfl, a, vs, rfl, t, rv⟩ := rep1 rs
    exact ⟨a, vs, rfl, .inr ⟨t.sq, k H _ (Same.refl _) ⟨a, vs, rfl, t, rv⟩⟩⟩
  · obtain ⟨ys, e1, e2⟩ := Option.map_eq_some_iff.mp e
    subst e2
    obtain ⟨u, rfl, ru⟩ := rep1 rs
    obtain ⟨a, vs, rfl, ha, rv⟩ := seqR_rep hr ru e1
    exact ⟨a, vs, rfl, .inl ⟨ha, fun l hl => k _ _ (same_new hl _) (laidT hr hl rv)⟩⟩
  · cases e
def tyM (h : HpM) : M → String
  | .non => "NoneType"
  | .bl _ => "bool"
  | .int _ => "int"
  | .str _ => "str"
  | .tup _ => "tuple"
  | .lst _ => "list"
  | .scr _ => "list"
  | .dct _ _ => "dict"
  | .ref k => (match h[k]? with | some (.lst _) => "list" | some (.dct _) => "dict" | none => "")
  | .ty _ => ""
def tysM : List M → Option (List String)
  | [] => some []
  | .ty c :: r => (tysM r).map (c :: ·)
  | _ => none
def okTy (c : String) : Bool := c == "str" || c == "int" || c == "bool" || c == "tuple" || c == "list"
def bInst (xs : List M) (h : HpM) : Option M := match xs with
  | [x, .ty c] => if tyM h x ≠ "" ∧ okTy c = true then some (.bl (instB (tyM h x) c)) else none
  | [x, .tup ts] => (tysM ts).bind fun cs => if tyM h x ≠ "" ∧ cs.all okTy = true then some (.bl (cs.any (instB (tyM h x)))) else none
  | _ => none
inductive TyK (K : PySem.W.Frag) (H : Hp) : V → String → Prop where
  | non : TyK K H .non "NoneType"
  | bl (x : Bool) : TyK K H (.bl x) "bool"
  | int (i : Int) : TyK K H (.int i) "int"
  | str (x : Str) : TyK K H (.str x) "str"
  | lst {a : Addr} {xs : List V} (e : SqL K H a xs) : TyK K H (.ref a) "list"
  | tup {a : Addr} {xs : List V} (e : SqT K H a xs) : TyK K H (.ref a) "tuple"
  | dK {a : Addr} {kvs : List (Key × V)} (e : Rd H a (.dK kvs)) : TyK K H (.ref a) "dict"
theorem tyM_rep {α : Pl} {h : HpM} {H : Hp} {m : M} {v : V} (hr : Rl K α h H) (r : RepA K α H m v) (n : tyM h m ≠ "") : TyK K H v (tyM h m) := by
  cases m with
  | non => cases (show v = .non from r); exact .non
  | bl b => cases (show v = .bl b from r); exact .bl b
  | int b => cases (show v = .int b from r); exact .int b
  | str b => cases (show v = .str b from r); exact .str b
  | ty b => exact absurd rfl n
  | tup xs => obtain ⟨a, vs, rfl, t, _⟩ := r; exact .tup t.sq
  | lst xs => obtain ⟨a, vs, rfl, _, t, _⟩ := r; exact .lst (.of t)
  | scr xs => obtain ⟨a, rfl, t⟩ := r; exact .lst t.sq
  | dct ks xs => obtain ⟨a, vs, rfl, _, t, _⟩ := r; exact .dK t
  | ref k =>
    obtain ⟨a, ha, rfl⟩ := r
    unfold tyM at n ⊢
    dsimp only at n ⊢
    cases e : h[k]? with
    | none => rw [e] at n; exact absurd rfl n
    | some o =>
      cases o with
      | lst xs => obtain ⟨vs, hv, _⟩ := hr.obj k a _ ha e; exact .lst (.of hv)
      | dct xs => obtain ⟨vs, hv, _⟩ := hr.obj k a _ ha e; exact .dK (.inl hv)
theorem TyK.name {H : Hp} {x : V} {t : String} (h : TyK K H x t) : t = "NoneType" ∨ t = "bool" ∨ t = "int" ∨ t = "str" ∨ t = "list" ∨ t = "tuple" ∨ t = "dict" := by cases h <;> simp
def rInstM (K : PySem.W.Frag) : List V → Hp → VK → Prop := fun xs H Q => (∃ x t c, xs = [x, .ty c] ∧ TyK K H x t ∧ okTy c = true ∧ Q (.bl (instB t c)) H) ∨
  ∃ (x : V) (t : String) (p : Addr) (cs : List String), xs = [x, .ref p] ∧ TyK K H x t ∧ SqT K H p (cs.map V.ty) ∧ cs.all okTy = true ∧ Q (.bl (cs.any (instB t))) H
theorem okTy_of {c : String} (h : okTy c = true) : c = "str" ∨ c = "int" ∨ c = "bool" ∨ c = "tuple" ∨ c = "list" := by
  simpa [okTy, or_assoc] using h
theorem call_instM : CallR X (.builtin "isinstance") (rInstM X.K) := by
  intro pins s σ H xs us Q I r h
  rcases h with ⟨x, t, c, rfl, ty, hc, q⟩ | ⟨x, t, p, cs, rfl, ty, hp, hc, q⟩
  · obtain ⟨u, w', rfl, ru, rw'⟩ := vals2 r
    obtain rfl : w' = Value.type c := rw'
    have e := kit_instB X.K ty.name (okTy_of hc)
    have fin : ∀ tk, EP X pins σ Q (.bool (instB t c)) { s with toks := tk } := fun tk => ⟨.bl _, H, I.tok _, rfl, q⟩
    cases ty with
    | non => cases (show u = Value.none from ru); exact PySem.W.kia_one PySem.W.kitx_none I.kIn True.intro e (fun z => nomatch z) fin
    | bl y => cases (show u = Value.bool y from ru); exact PySem.W.kia_one PySem.W.kitx_bool I.kIn True.intro e (fun z => nomatch z) fin
    | int i => obtain ⟨t, q⟩ := (show ∃ t, u = Value.int i t from ru); cases q; exact PySem.W.kia_one PySem.W.kitx_int I.kIn True.intro e (fun z => nomatch z) fin
    | str y => obtain ⟨t, q⟩ := (show ∃ t, u = Value.str y t from ru); cases q; exact PySem.W.kia_one PySem.W.kitx_str I.kIn True.intro e (fun z => nomatch z) fin
    | lst hx =>
      cases (show u = Value.ref _ from ru)
      obtain ⟨its, _, o, e1, c1, _⟩ := I.lstK hx
      exact PySem.W.kia_one PySem.W.kitx_list I.kIn ⟨o, e1, c1⟩ e (fun z => nomatch z) fin
    | tup hx =>
      cases (show u = Value.ref _ from ru)
      obtain ⟨its, _, o, e1, c1, _⟩ := I.tupK hx
      exact PySem.W.kia_one PySem.W.kitx_tuple I.kIn ⟨o, e1, c1⟩ e (fun z => nomatch z) fin
    | @dK a kvs ea =>
      cases (show u = Value.ref a from ru)
      obtain ⟨_, _, vs, _, p⟩ := dk_rd I.hok ea
      obtain ⟨o, es, ep, h1, h2, _⟩ := p
      exact PySem.W.kia_one PySem.W.kitx_dict I.kIn ⟨o, h1, h2.1⟩ e (fun z => nomatch z) fin
  · obtain ⟨u, w', rfl, ru, rw'⟩ := vals2 r
    obtain rfl : w' = Value.ref p := rw'
    have e := kitAny_of X.K ty.name (cs := cs) fun c hm => okTy_of (List.all_eq_true.mp hc c hm)
    obtain ⟨its, rv, ht⟩ := I.tupK hp
    have ei := vals_ty rv
    obtain ⟨⟨cls, dd, data, sl⟩, ho, hcl, n, hd⟩ := id ht
    simp only at hcl hd
    subst hcl hd
    rw [← ei] at e
    have fin : ∀ tk, EP X pins σ Q (.bool (cs.any (instB t))) { s with toks := tk } := fun tk => ⟨.bl _, H, I.tok _, rfl, q⟩
    cases ty with
    | non => cases (show u = Value.none from ru); exact PySem.W.kia_tup PySem.W.kitx_none I.kIn True.intro ho e (fun z => nomatch z) fin
    | bl y => cases (show u = Value.bool y from ru); exact PySem.W.kia_tup PySem.W.kitx_bool I.kIn True.intro ho e (fun z => nomatch z) fin
    | int i => obtain ⟨t, q⟩ := (show ∃ t, u = Value.int i t from ru); cases q; exact PySem.W.kia_tup PySem.W.kitx_int I.kIn True.intro ho e (fun z => nomatch z) fin
    | str y => obtain ⟨t, q⟩ := (show ∃ t, u = Value.str y t from ru); cases q; exact PySem.W.kia_tup PySem.W.kitx_str I.kIn True.intro ho e (fun z => nomatch z) fin
    | lst hx =>
      cases (show u = Value.ref _ from ru)
      obtain ⟨its, _, o, e1, c1, _⟩ := I.lstK hx
      exact PySem.W.kia_tup PySem.W.kitx_list I.kIn ⟨o, e1, c1⟩ ho e (fun z => nomatch z) fin
    | tup hx =>
      cases (show u = Value.ref _ from ru)
      obtain ⟨its, _, o, e1, c1, _⟩ := I.tupK hx
      exact PySem.W.kia_tup PySem.W.kitx_tuple I.kIn ⟨o, e1, c1⟩ ho e (fun z => nomatch z) fin
    | @dK a kvs ea =>
      cases (show u = Value.ref a from ru)
      obtain ⟨_, _, vs, _, p⟩ := dk_rd I.hok ea
      obtain ⟨o, es, ep, h1, h2, _⟩ := p
      exact PySem.W.kia_tup PySem.W.kitx_dict I.kIn ⟨o, h1, h2.1⟩ ho e (fun z => nomatch z) fin
theorem tysM_rep {α : Pl} {H : Hp} : ∀ {xs : List M} {cs : List String} {vs : List V}, tysM xs = some cs → RepAs K α H xs vs → vs = cs.map V.ty
  | [], _, vs, e, r => by cases e; exact r
  | .ty b :: xs, _, vs, e, r => by
    obtain ⟨cs, e1, e2⟩ := Option.map_eq_some_iff.mp e
    subst e2
    obtain ⟨v, q, rfl, h1, h2⟩ := r
    rw [tysM_rep e1 h2, show v = .ty b from h1]
    rfl
  | .non :: _, _, _, e, _ | .int _ :: _, _, _, e, _ | .str _ :: _, _, _, e, _ | .bl _ :: _, _, _, e, _ | .tup _ :: _, _, _, e, _ | .lst _ :: _, _, _, e, _ | .dct _ _ :: _, _, _, e, _ | .ref _ :: _, _, _, e, _ | .scr _ :: _, _, _, e, _ => by cases e
theorem fm_inst : CallM K (rInstM K) bInst := by
  intro α h H xs d us Q hr rs e k
  unfold bInst at e
  split at e
  · split at e
    · rename_i hc
      cases e
      obtain ⟨u, v, rfl, ru, rv⟩ := rep2 rs
      cases (show v = .ty _ from rv)
      exact .inl ⟨u, _, _, rfl, tyM_rep hr ru hc.1, hc.2, k H _ (Same.refl _) rfl⟩
    · cases e
  · obtain ⟨cs, e1, e⟩ := Option.bind_eq_some_iff.mp e
    split at e
    · rename_i hc
      cases e
      obtain ⟨u, v, rfl, ru, a, vs, rfl, t, rv⟩ := rep2 rs
      rw [tysM_rep e1 rv] at t
      exact .inr ⟨u, _, a, cs, rfl, tyM_rep hr ru hc.1, t.sq, hc.2, k H _ (Same.refl _) rfl⟩
    · cases e
  · cases e
end
end L2
set_option Elab.async false
set_option linter.all false
set_option maxRecDepth 100000
namespace L2
open PySem PySem.Spec PyProof.Rows
section
variable {X : Cx} {K : PySem.W.Frag}
def isL (x : M) (h : HpM) : Bool := (seqL h x).isSome
theorem isL_ty {α : Pl} {h : HpM} {H : Hp} {x : M} {v : V} (hr : Rl K α h H) (r : RepA K α H x v) (e : isL x h = true) : tyV K "list" v H := by
  obtain ⟨xs, e1⟩ := Option.isSome_iff_exists.mp e
  obtain ⟨a, vs, rfl, ha, _⟩ := seqL_rep hr r e1
  exact .inl ⟨rfl, vs, .of ha⟩
def isS (x : M) (_ : HpM) : Bool := match x with | .str _ => true | _ => false
theorem isS_ty {α : Pl} {h : HpM} {H : Hp} {x : M} {v : V} (hr : Rl K α h H) (r : RepA K α H x v) (e : isS x h = true) : tyV K "str" v H := by
  cases x with
  | str z => cases (show v = .str z from r); exact rfl
  | _ => cases e
def onL (f : List M → Option (M × List M)) (x : M) (h : HpM) : Option (M × HpM) := match x with
  | .ref k => (match h[k]? with | some (.lst xs) => (f xs).map fun (d, ys) => (d, h.set k (.lst ys)) | _ => none)
  | _ => none
theorem onL_inv {f : List M → Option (M × List M)} {x : M} {h : HpM} {d : M} {h' : HpM} (e : onL f x h = some (d, h')) : ∃ k xs ys, x = .ref k ∧ h[k]? = some (.lst xs) ∧ f xs = some (d, ys) ∧ h' = h.set k (.lst ys) := by
  unfold onL at e
  split at e
  · split at e
    · rename_i hk
      obtain ⟨⟨d1, ys⟩, e1, e2⟩ := Option.map_eq_some_iff.mp e
      cases e2
      exact ⟨_, _, ys, rfl, hk, e1, rfl⟩
    · cases e
  · cases e
def strsM : List M → Option (List Str)
  | [] => some []
  | .str z :: r => (strsM r).map (z :: ·)
  | _ => none
theorem strsM_rep {α : Pl} {H : Hp} : ∀ {xs : List M} {cs : List Str} {vs : List V}, strsM xs = some cs → RepAs K α H xs vs → vs = cs.map V.str
  | [], _, vs, e, r => by cases e; exact r
  | .str b :: xs, _, vs, e, r => by
    obtain ⟨cs, e1, e2⟩ := Option.map_eq_some_iff.mp e
    subst e2
    obtain ⟨v, q, rfl, h1, h2⟩ := r
    rw [strsM_rep e1 h2, show v = .str b from h1]
    rfl
  | .non :: _, _, _, e, _ | .int _ :: _, _, _, e, _ | .ty _ :: _, _, _, e, _ | .bl _ :: _, _, _, e, _ | .tup _ :: _, _, _, e, _ | .lst _ :: _, _, _, e, _ | .dct _ _ :: _, _, _, e, _ | .ref _ :: _, _, _, e, _ | .scr _ :: _, _, _, e, _ => by cases e
def mJoin (x : M) (xs : List M) (h : HpM) : Option (M × HpM) := match x, xs with
  | .str z, [y] => (seqL h y).bind fun ys => (strsM ys).bind fun cs => if (cs.map (·.length)).sum + cs.length * z.length ≤ 16777216 then some (.str (Txt.join z cs), h) else none
  | _, _ => none
theorem fm_join : MtA K (fun x xs H Q => ∃ (z : Str) (p : Addr) (ys : List Str), x = .str z ∧ xs = [.ref p] ∧ H p = some (.lst (ys.map V.str)) ∧ (ys.map (·.length)).sum + ys.length * z.length ≤ 16777216 ∧ Q (.str (Txt.join z ys)) H) mJoin := by
  intro α h h' H x xs d u us Q hr rx rs e k
  unfold mJoin at e
  split at e
  · obtain ⟨ys, e0, e⟩ := Option.bind_eq_some_iff.mp e
    obtain ⟨cs, e1, e⟩ := Option.bind_eq_some_iff.mp e
    split at e
    · rename_i hl
      cases e
      obtain ⟨v, rfl, rv⟩ := rep1 rs
      obtain ⟨b, ws, rfl, hb, rw'⟩ := seqL_rep hr rv e0
      rw [strsM_rep e1 rw'] at hb
      exact ⟨_, b, cs, rx, rfl, hb, hl, k α H _ .refl hr rfl⟩
    · cases e
  · cases e
def gSubM (o i : FE) : FG := fun x ρ h => bnd (o ρ h) fun oo h1 => bnd (i ρ h1) fun ii h2 => match ii with
  | .int j => bnd (onL (fun ys => (ixN ys.length j).map fun q => (.non, ys.set q x)) oo h2) fun _ h3 => some (ρ, h3)
  | _ => none
theorem mg_sub {o i : Expr} {mo mi : FE} {pos : Pos} (ho : PE X o (tM X.K mo)) (hi : PE X i (tM X.K mi))
    (ha : ∀ v, assign (.Subscript o i pos) X.env v = (do
      let ov ← holding [v] (eval o X.env)
      let iv ← holding [v, ov] (eval i X.env)
      standAt pos
      holding [v, ov, iv] (setItem ov iv v)
      release [v, ov, iv] [])) : PG X (.Subscript o i pos) (gM X.K (gSubM mo mi)) := (pg_sub ho hi set_list ha).imp fun v σ H Q ⟨α, ρ, h, x, ρ', h', hσ, hr, rx, e, k⟩ => by
  obtain ⟨oo, h1, e1, e⟩ := bnd_inv e
  obtain ⟨ii, h2, e2, e⟩ := bnd_inv e
  split at e
  · obtain ⟨_, h3, e3, e⟩ := bnd_inv e
    cases e
    obtain ⟨q, xs, ys, rfl, hq, e4, rfl⟩ := onL_inv e3
    obtain ⟨j, e5, e6⟩ := Option.map_eq_some_iff.mp e4
    cases e6
    refine ⟨α, ρ, h, _, h1, hσ, hr, e1, fun α1 H1 u ev1 hr1 ru => ⟨α1, ρ, h1, _, h2, hσ.ev ev1, hr1, e2, fun α2 H2 w ev2 hr2 rw' => ?_⟩⟩
    obtain ⟨a, ha, rfl⟩ := ru
    have ha2 := ev2.ix ha
    obtain ⟨vs, hv, rvs⟩ := hr2.obj q a _ ha2 hq
    refine ⟨a, vs, _, j, rfl, rw', hv, by rw [← rvs.length]; exact e5, ?_⟩
    have ev : Ev α2 α2 H2 (upd H2 a (.lst (vs.set j v))) := Ev.write hr2 (List.mem_of_getElem? ha2)
    have evA := (ev1.trans ev2).trans ev
    exact k α2 _ σ evA (hr2.write ha2 ⟨_, upd_same, (rvs.set ((rx.ev ev1).ev ev2) j).ev ev⟩) (hσ.ev evA)
  · cases e
end
end L2
set_option Elab.async false
set_option linter.all false
set_option maxRecDepth 100000
namespace L2
open PySem PySem.Spec PyProof.Rows
def ConstM (K : PySem.W.Frag) (d : M) (u : Value) : Prop := ∃ v, RelV v u ∧ ∀ α H, RepA K α H d v
section
variable {X : Cx} {a b c e o e' : Expr} {es : List Expr} {ma mb mc me : FE} {mas : FA} {tc : FT} {ms mr : FS} {g : FG} {pos p : Pos}
theorem me_glob {x : Str} {u : Value} {d : M} (q : NmOk X.env.scope x .globalImplicit) (hm : X.mg x = some u) (r : ConstM X.K d u) : PE X (.Name x pos) (tM X.K (mC d)) := by
  obtain ⟨v, rv, rd⟩ := r
  exact me_C (pe_globk q hm rv) rd
def sPar (i j : Nat) (a : FA) : FS := fun ρ h => bnd (a ρ h) fun xs h1 => match xs with | [x, y] => some (.nx ((ρ.set i (some x)).set j (some y)), h1) | _ => none
theorem ms_par {i j : Nat} {x y : Str} {px py pt : Pos} {kt k2 pt2} (hc : X.calm = true) (hN : X.N.Nodup) (hi : X.N[i]? = some x) (hj : X.N[j]? = some y) (hij : i ≠ j)
    (hx : X.env.scope.names.lookup x = some .local) (hy : X.env.scope.names.lookup y = some .local) (ha : PA X [a, b] (aM X.K mas))
    (hw : swappedStores [.Tuple [.Name x px, .Name y py] kt pt] (.Tuple [a, b] k2 pt2) X.env = pure (some [x, y]))
    (hs : swapsWithSole [.Tuple [.Name x px, .Name y py] kt pt] (.Tuple [a, b] k2 pt2) pos.line X.env = pure false) :
    PS X (.Assign [.Tuple [.Name x px, .Name y py] kt pt] (.Tuple [a, b] k2 pt2) pos) (sM X.K (sPar i j mas)) := (ps_par hc hN hi hj hij hx hy ha hw hs).imp fun D σ H ⟨α, ρ, h, d, h', hσ, hr, e, k⟩ => by
  obtain ⟨xs, h1, e1, e⟩ := bnd_inv e
  split at e
  · cases e
    refine ⟨α, ρ, h, _, _, hσ, hr, e1, fun α1 H1 vs ev1 hr1 rs => ?_⟩
    obtain ⟨u, v, rfl, ru, rv⟩ := rep2 rs
    exact ⟨u, v, rfl, k α1 H1 ev1 hr1 _ (((hσ.ev ev1).set ru).set rv)⟩
  · cases e
end
section
variable {P : Program} {w : World} {K : PySem.W.Frag} {mg : Str → Option Value} {base : Heap}
theorem FnOk.empty {CX : CXT} {k : Nat} {f : Addr} {fd : FuncData} {ps : List Str} : FnOk P w K mg base CX k f fd ps (spM K fun _ _ => none) :=
  ⟨fun vs H Q E ⟨_, _, _, _, _, _, _, e, _⟩ => (nomatch e), fun A outer s H args us vs Q E _ _ _ _ ⟨_, _, _, _, _, _, _, e, _⟩ => (nomatch e)⟩
end
def spLaw (K : PySem.W.Frag) : Sp := fun vs H Q _ => ∃ (a : Addr) (ns : List Int), vs = [.ref a] ∧ SqL K H a (ns.map V.int) ∧ ns.length ≤ 63 ∧ ∀ H', Q (.bl true) H'
theorem spLaw_of {K : PySem.W.Frag} {H : Hp} {a : Addr} {ns : List Int} (hl : ns.length ≤ 63) (hS : SqL K H a (ns.map V.int)) : spLaw K [.ref a] H (fun v _ => v = .bl true) fun _ _ _ => False := ⟨a, ns, rfl, hS, hl, fun _ => rfl⟩
theorem spLaw_spM {K : PySem.W.Frag} {m : FF} (hm : ∀ ns : List Int, ns.length ≤ 63 → ∃ h', m [.scr ns] [] = some (.bl true, h')) {vs : List V} {H : Hp} {Q : VK} {E : XK} (q : spLaw K vs H Q E) : spM K m vs H Q E := by
  obtain ⟨a, ns, rfl, hS, hl, k⟩ := q
  obtain ⟨h', e⟩ := hm ns hl
  refine ⟨⟨[], []⟩, [], [.scr ns], .bl true, h', ⟨_, _, rfl, ⟨a, rfl, ?_⟩, rfl⟩, ⟨rfl, by simp, by simp, by simp, fun k a o hk => by simp at hk⟩, e, fun α' H' v _ _ rv => ?_⟩
  · rcases hS with hS | hS
    · exact .inl ⟨hS, by simp, by simp⟩
    · exact .inr hS
  · cases (show v = .bl true from rv); exact k H'
end L2
set_option Elab.async false
set_option linter.all false
set_option maxRecDepth 100000
namespace L2
open PySem PySem.Spec PyProof.Rows
section
variable {X : Cx} {K : PySem.W.Frag} {mas : FA} {p pos : Pos}
def leS (a b : Str) : Bool := !decide (b.cps.toList < a.cps.toList)
theorem perm_eq {α : Type} {le : α → α → Bool} (as : ∀ a b, le a b = true → le b a = true → a = b) : ∀ {xs ys : List α}, xs.Perm ys → xs.Pairwise (fun a b => le a b = true) → ys.Pairwise (fun a b => le a b = true) → xs = ys
  | [], ys, p, _, _ => by rw [List.Perm.eq_nil p.symm]
  | x :: xs, [], p, _, _ => by have := p.eq_nil; cases this
  | x :: xs, y :: ys, p, hx, hy => by
    have hxy : x = y := by
      have m1 : x ∈ y :: ys := p.mem_iff.mp List.mem_cons_self
      have m2 : y ∈ x :: xs := p.mem_iff.mpr List.mem_cons_self
      rcases List.mem_cons.mp m1 with e | e
      · exact e
      · rcases List.mem_cons.mp m2 with e' | e'
        · exact e'.symm
        · exact as x y (List.rel_of_pairwise_cons hx e') (List.rel_of_pairwise_cons hy e)
    subst hxy
    rw [perm_eq as ((List.perm_cons x).mp p) (List.Pairwise.of_cons hx) (List.Pairwise.of_cons hy)]
theorem leS_anti (a b : Str) (h : leS a b = true) (h' : leS b a = true) : a = b := by
  simp only [leS, Bool.not_eq_true', decide_eq_false_iff_not] at h h'
  have e : a.cps.toList = b.cps.toList := List.le_antisymm h h'
  cases a; cases b
  simp at e
  rw [e]
theorem leS_total (a b : Str) : (leS a b || leS b a) = true := by
  simp only [leS, Bool.or_eq_true, Bool.not_eq_true', decide_eq_false_iff_not]
  rcases List.le_total (l₁ := a.cps.toList) (l₂ := b.cps.toList) with h | h
  · exact .inl h
  · exact .inr h
theorem leS_trans (a b c : Str) (h : leS a b = true) (h' : leS b c = true) : leS a c = true := by
  simp only [leS, Bool.not_eq_true', decide_eq_false_iff_not] at h h' ⊢
  exact List.le_trans (l₁ := a.cps.toList) (l₂ := b.cps.toList) (l₃ := c.cps.toList) h h'
def sortS (ns : List Str) : List Str := ns.mergeSort leS
theorem sortS_pw (ns : List Str) : (sortS ns).Pairwise (fun a b => leS a b = true) := List.pairwise_mergeSort leS_trans leS_total ns
theorem pw_rising : ∀ {p : Str} {l : List Str}, risingS p l = true → (p :: l).Pairwise (fun a b => leS a b = true)
  | p, [], _ => by simp
  | p, x :: r, h => by
    have h' : (!ltCps x.cps.toList p.cps.toList && risingS x r) = true := h
    rw [Bool.and_eq_true, ltCps_eq] at h'
    have ih := pw_rising h'.2
    refine List.pairwise_cons.mpr ⟨fun y hy => ?_, ih⟩
    rcases List.mem_cons.mp hy with rfl | hy
    · exact h'.1
    · exact leS_trans _ _ _ h'.1 (List.rel_of_pairwise_cons ih hy)
theorem pw_sortedS : ∀ {l : List Str}, sortedS l = true → l.Pairwise (fun a b => leS a b = true)
  | [], _ => .nil
  | x :: r, h => pw_rising h
theorem vals_strsM : ∀ {us : List Value} {ys : List Str}, StrsAre us ys → Vals (ys.map V.str) us
  | _, _, .nil => .nil
  | _, _, .cons n t h => .cons ⟨t, rfl⟩ (vals_strsM h)
theorem RepAs.strs {α : Pl} {H : Hp} : ∀ {ns : List Str}, RepAs K α H (ns.map M.str) (ns.map V.str)
  | [] => rfl
  | n :: ns => ⟨_, _, rfl, rfl, RepAs.strs⟩
end
end L2
set_option Elab.async false
set_option linter.all false
set_option maxRecDepth 100000
namespace L2
open PySem
def Ens {a : Type} (x : Option (a × HpM)) (Q : a → HpM → Prop) : Prop := ∃ y h, x = some (y, h) ∧ Q y h
def Enp {a : Type} (x : Option a) (Q : a → Prop) : Prop := ∃ y, x = some y ∧ Q y
def EB (x : M) (R : Bool → Prop) : Prop := ∃ b, x = .bl b ∧ R b
def SQ (b : FS) (Q : Out → HpM → Prop) : Out → HpM → Prop
  | .nx ρ, h => Ens (b ρ h) Q
  | o, h => Q o h
def FQ (Q : M → HpM → Prop) : Out → HpM → Prop
  | .rt d, h => Q d h
  | .nx _, h => Q .non h
  | _, _ => False
section
variable {a b : Type} {Q : a → HpM → Prop} {R : M → HpM → Prop} {S : Out → HpM → Prop} {T : Bool → HpM → Prop} {U : List M → HpM → Prop} {ρ : EnvM} {h : HpM} {m ma mb mc : FE} {mas : FA} {ta tb : FT} {sa sb : FS} {d x y : M}
theorem Ens.mono {x : Option (a × HpM)} {Q Q' : a → HpM → Prop} (e : Ens x Q) (i : ∀ y h, Q y h → Q' y h) : Ens x Q' := by obtain ⟨y, h, e, q⟩ := e; exact ⟨y, h, e, i y h q⟩
theorem Ens.ret {y : a} (q : Q y h) : Ens (some (y, h)) Q := ⟨y, h, rfl, q⟩
theorem Ens.bnd {x : Option (a × HpM)} {f : a → HpM → Option (b × HpM)} {Q : b → HpM → Prop} (e : Ens x fun y h => Ens (f y h) Q) : Ens (L2.bnd x f) Q := by
  obtain ⟨y, h, rfl, e⟩ := e; exact e
theorem Enp.map {x : Option a} (e : Enp x fun y => Q y h) : Ens (x.map (·, h)) Q := by obtain ⟨y, rfl, q⟩ := e; exact ⟨y, h, rfl, q⟩
theorem e_p {x : Option a} {y : a} {Q : a → Prop} (e : x = some y) (q : Q y) : Enp x Q := ⟨y, e, q⟩
theorem e_c (q : R d h) : Ens (mC d ρ h) R := .ret q
theorem e_var {i : Nat} {v : M} (e : ρ[i]? = some (some v)) (q : R v h) : Ens (mVar i ρ h) R := ⟨v, h, by unfold mVar; rw [e], q⟩
theorem e_nil (q : U [] h) : Ens (mNil ρ h) U := .ret q
theorem e_cons (q : Ens (ma ρ h) fun x h1 => Ens (mas ρ h1) fun xs h2 => U (x :: xs) h2) : Ens (mCons ma mas ρ h) U := .bnd (q.mono fun x h1 q => .bnd (q.mono fun xs h2 q => .ret q))
theorem e_tup (q : Ens (mas ρ h) fun xs h1 => xs.length ≤ 16777216 ∧ R (.tup xs) h1) : Ens (mTup mas ρ h) R := .bnd (q.mono fun xs h1 q => by rw [if_pos q.1]; exact .ret q.2)
theorem e_lst (q : Ens (mas ρ h) fun xs h1 => xs.length ≤ 16777216 ∧ R (.lst xs) h1) : Ens (mLst mas ρ h) R := .bnd (q.mono fun xs h1 q => by rw [if_pos q.1]; exact .ret q.2)
theorem e_lstH (q : Ens (mas ρ h) fun xs h1 => xs.length ≤ 16777216 ∧ R (.ref h1.length) (h1 ++ [.lst xs])) : Ens (mLstH mas ρ h) R := .bnd (q.mono fun xs h1 q => by rw [if_pos q.1]; exact .ret q.2)
theorem e_op {f : M → M → HpM → Option M} (q : Ens (ma ρ h) fun x h1 => Ens (mb ρ h1) fun y h2 => Enp (f x y h2) fun d => R d h2) : Ens (mOp f ma mb ρ h) R := .bnd (q.mono fun x h1 q => .bnd (q.mono fun y h2 q => q.map))
theorem e_un {f : M → HpM → Option M} (q : Ens (ma ρ h) fun x h1 => Enp (f x h1) fun d => R d h1) : Ens (mUn f ma ρ h) R := .bnd (q.mono fun x h1 q => q.map)
theorem e_cb {f : List M → HpM → Option M} (q : Ens (mas ρ h) fun xs h1 => Enp (f xs h1) fun d => R d h1) : Ens (mCB f mas ρ h) R := .bnd (q.mono fun x h1 q => q.map)
theorem e_call {f : FF} (q : Ens (mas ρ h) fun xs h1 => Ens (f xs h1) R) : Ens (mCall f mas ρ h) R := .bnd q
theorem e_mt {ok : M → HpM → Bool} {f : M → List M → HpM → Option (M × HpM)} (q : Ens (ma ρ h) fun x h1 => ok x h1 = true ∧ Ens (mas ρ h1) fun xs h2 => Ens (f x xs h2) R) : Ens (mMt ok f ma mas ρ h) R := .bnd (q.mono fun x h1 q => by rw [if_pos q.1]; exact .bnd q.2)
theorem e_asB {f : Bool → Option (a × HpM)} (q : EB x fun c => Ens (f c) Q) : Ens (asB x f) Q := by obtain ⟨c, rfl, q⟩ := q; exact q
theorem e_eb {c : Bool} {R : Bool → Prop} (q : R c) : EB (.bl c) R := ⟨c, rfl, q⟩
theorem e_and (q : Ens (ma ρ h) fun x h1 => EB x fun c => if c = true then Ens (mb ρ h1) R else R (.bl false) h1) : Ens (mAnd ma mb ρ h) R := .bnd (q.mono fun x h1 q => e_asB (by
  obtain ⟨c, rfl, q⟩ := q
  refine ⟨c, rfl, ?_⟩
  cases c
  · exact .ret q
  · exact q))
theorem e_or (q : Ens (ma ρ h) fun x h1 => EB x fun c => if c = true then R (.bl true) h1 else Ens (mb ρ h1) R) : Ens (mOr ma mb ρ h) R := .bnd (q.mono fun x h1 q => e_asB (by
  obtain ⟨c, rfl, q⟩ := q
  refine ⟨c, rfl, ?_⟩
  cases c
  · exact q
  · exact .ret q))
theorem e_not (q : Ens (ma ρ h) fun x h1 => EB x fun c => R (.bl (!c)) h1) : Ens (mNot ma ρ h) R := .bnd (q.mono fun x h1 q => e_asB (by
  obtain ⟨c, rfl, q⟩ := q
  exact ⟨c, rfl, .ret q⟩))
theorem e_ifE (q : Ens (ta ρ h) fun c h1 => if c = true then Ens (ma ρ h1) R else Ens (mb ρ h1) R) : Ens (mIf ta ma mb ρ h) R := .bnd (q.mono fun c h1 q => by cases c <;> exact q)
theorem e_chain {f g : M → M → HpM → Option M} (q : Ens (ma ρ h) fun x h1 => Ens (mb ρ h1) fun y h2 => Enp (f x y h2) fun z => EB z fun k => if k = true then Ens (mc ρ h2) fun w h3 => Enp (g y w h3) fun d => R d h3 else R (.bl false) h2) : Ens (mChain f g ma mb mc ρ h) R :=
  .bnd (q.mono fun x h1 q => .bnd (q.mono fun y h2 q => by
    obtain ⟨z, e, k, rfl, q⟩ := q
    rw [e, Option.bind_some]
    refine e_asB ⟨k, rfl, ?_⟩
    cases k
    · exact .ret q
    · exact .bnd (q.mono fun w h3 q => q.map)))
theorem e_tV (q : Ens (ma ρ h) fun x h1 => EB x fun c => T c h1) : Ens (tV ma ρ h) T := .bnd (q.mono fun x h1 q => e_asB (by obtain ⟨c, rfl, q⟩ := q; exact ⟨c, rfl, .ret q⟩))
theorem e_tAnd (q : Ens (ta ρ h) fun c h1 => if c = true then Ens (tb ρ h1) T else T false h1) : Ens (tAndM ta tb ρ h) T := .bnd (q.mono fun c h1 q => by cases c; exact .ret q; exact q)
theorem e_tOr (q : Ens (ta ρ h) fun c h1 => if c = true then T true h1 else Ens (tb ρ h1) T) : Ens (tOrM ta tb ρ h) T := .bnd (q.mono fun c h1 q => by cases c; exact q; exact .ret q)
theorem e_tNot (q : Ens (ta ρ h) fun c h1 => T (!c) h1) : Ens (tNotM ta ρ h) T := .bnd (q.mono fun c h1 q => .ret q)
theorem e_tTrue (q : T true h) : Ens (tTrueM ρ h) T := .ret q
theorem e_oNo {O : Option Int → HpM → Prop} (q : O none h) : Ens (oNo ρ h) O := .ret q
theorem e_oSome {O : Option Int → HpM → Prop} (q : Ens (ma ρ h) fun x h1 => ∃ i, x = .int i ∧ O (some i) h1) : Ens (oSome ma ρ h) O := .bnd (q.mono fun x h1 q => by obtain ⟨i, rfl, q⟩ := q; exact .ret q)
theorem e_sl {f : M → Option Int → Option Int → HpM → Option M} {lo hi : FO} (q : Ens (ma ρ h) fun x h1 => Ens (lo ρ h1) fun l h2 => Ens (hi ρ h2) fun u h3 => Enp (f x l u h3) fun d => R d h3) : Ens (mSl f ma lo hi ρ h) R :=
  .bnd (q.mono fun x h1 q => .bnd (q.mono fun l h2 q => .bnd (q.mono fun u h3 q => q.map)))
theorem e_next (q : S (.nx ρ) h) : Ens (sNext ρ h) S := .ret q
theorem e_ret (q : Ens (ma ρ h) fun x h1 => S (.rt x) h1) : Ens (sRet ma ρ h) S := .bnd (q.mono fun x h1 q => .ret q)
theorem e_seq (q : Ens (sa ρ h) (SQ sb S)) : Ens (sSeq sa sb ρ h) S := .bnd (q.mono fun o h1 q => by
  cases o with
  | nx ρ' => exact q
  | bk ρ' => exact .ret q
  | ct ρ' => exact .ret q
  | rt d => exact .ret q)
theorem e_sqN (q : Ens (sb ρ h) S) : SQ sb S (.nx ρ) h := q
theorem e_sqR (q : S (.rt d) h) : SQ sb S (.rt d) h := q
theorem e_fqR (q : R d h) : FQ R (.rt d) h := q
theorem e_sif (q : Ens (ta ρ h) fun c h1 => if c = true then Ens (sa ρ h1) S else Ens (sb ρ h1) S) : Ens (sIf ta sa sb ρ h) S := .bnd (q.mono fun c h1 q => by cases c <;> exact q)
theorem e_asg {g : FG} (q : Ens (ma ρ h) fun x h1 => Ens (g x ρ h1) fun ρ' h2 => S (.nx ρ') h2) : Ens (sAsg ma g ρ h) S := .bnd (q.mono fun x h1 q => .bnd (q.mono fun ρ' h2 q => .ret q))
theorem e_nm {i : Nat} {G : EnvM → HpM → Prop} (q : G (ρ.set i (some x)) h) : Ens (gNm i x ρ h) G := .ret q
theorem e_gnil {G : EnvM → HpM → Prop} (q : G ρ h) : Ens (gsNil [] ρ h) G := .ret q
theorem e_gcons {g : FG} {gs : FGs} {xs : List M} {G : EnvM → HpM → Prop} (q : Ens (g x ρ h) fun ρ' h' => Ens (gs xs ρ' h') G) : Ens (gsCons g gs (x :: xs) ρ h) G := .bnd q
theorem e_gtp {n : Nat} {gs : FGs} {xs : List M} {G : EnvM → HpM → Prop} (e : xs.length = n) (q : Ens (gs xs ρ h) G) : Ens (gTp n gs (.tup xs) ρ h) G := by show Ens (if xs.length = n then _ else _) G; rw [if_pos e]; exact q
theorem e_par {i j : Nat} (q : Ens (mas ρ h) fun xs h1 => ∃ x y, xs = [x, y] ∧ S (.nx ((ρ.set i (some x)).set j (some y))) h1) : Ens (sPar i j mas ρ h) S := .bnd (q.mono fun xs h1 q => by obtain ⟨x, y, rfl, q⟩ := q; exact .ret q)
theorem e_gsub {o i : FE} {G : EnvM → HpM → Prop} (q : Ens (o ρ h) fun oo h1 => Ens (i ρ h1) fun ii h2 => ∃ k j xs q, oo = .ref k ∧ ii = .int j ∧ h2[k]? = some (.lst xs) ∧ ixN xs.length j = some q ∧ G ρ (h2.set k (.lst (xs.set q x)))) : Ens (gSubM o i x ρ h) G :=
  .bnd (q.mono fun oo h1 q => .bnd (q.mono fun ii h2 q => by
    obtain ⟨k, j, xs, q, rfl, rfl, e1, e2, q'⟩ := q
    exact ⟨ρ, _, by unfold onL; dsimp only; rw [e1]; dsimp only; rw [e2]; rfl, q'⟩))
theorem e_fun {n k : Nat} {ds : List M} (e : ds.length = n) (q : Ens (sa (ds.map some ++ List.replicate k none) h) (FQ R)) : Ens (mFun n k sa ds h) R := by
  unfold mFun
  rw [if_pos e]
  refine .bnd (q.mono fun o h1 q => ?_)
  cases o with
  | nx ρ' => exact .ret q
  | bk ρ' => exact q.elim
  | ct ρ' => exact q.elim
  | rt d => exact .ret q
def LQ (I : EnvM → HpM → Prop) (S : Out → HpM → Prop) : Out → HpM → Prop
  | .nx ρ, h => I ρ h
  | .ct ρ, h => I ρ h
  | .bk ρ, h => S (.nx ρ) h
  | .rt d, h => S (.rt d) h
theorem e_loop {xs : List M} {bd : M → FS} (I : Nat → EnvM → HpM → Prop) : ∀ {l : List M} {i : Nat} {ρ : EnvM} {h : HpM}, l = xs.drop i → i ≤ xs.length → I i ρ h →
    (∀ i x ρ h, xs[i]? = some x → I i ρ h → Ens (bd x ρ h) (LQ (I (i + 1)) S)) → (∀ ρ h, I xs.length ρ h → S (.nx ρ) h) → Ens (mLoop xs none bd l ρ h) S
  | [], i, ρ, h, e, hi, hI, _, hd => by
    have : i = xs.length := by
      have := congrArg List.length e
      simp at this; omega
    subst this
    unfold mLoop
    rw [if_pos (show okS xs none h from trivial)]
    exact .ret (hd ρ h hI)
  | x :: r, i, ρ, h, e, hi, hI, hs, hd => by
    have hx : xs[i]? = some x := by
      have := congrArg (fun l : List M => l[0]?) e
      simpa using this.symm
    have hr : r = xs.drop (i + 1) := by
      have := congrArg List.tail e
      simpa using this
    have hlt : i < xs.length := (List.getElem?_eq_some_iff.mp hx).1
    unfold mLoop
    rw [if_pos (show okS xs none h from trivial)]
    refine .bnd ((hs i x ρ h hx hI).mono fun o h1 q => ?_)
    cases o with
    | nx ρ' => exact e_loop I hr hlt q hs hd
    | ct ρ' => exact e_loop I hr hlt q hs hd
    | bk ρ' => exact .ret q
    | rt d => exact .ret q
theorem e_for {i : FI} {g : FG} (q : Ens (i ρ h) fun s h1 => Ens (mLoop s.1 s.2 (fun x ρ h => L2.bnd (g x ρ h) fun ρ' h' => sa ρ' h') s.1 ρ h1) S) : Ens (sFor i g sa ρ h) S := .bnd q
theorem e_body {g : FG} (q : Ens (g x ρ h) fun ρ' h' => Ens (sa ρ' h') S) : Ens (L2.bnd (g x ρ h) fun ρ' h' => sa ρ' h') S := .bnd q
theorem e_over {xs : List M} {bd : M → FS} (I : Nat → EnvM → HpM → Prop) (h0 : I 0 ρ h) (hs : ∀ i x ρ h, xs[i]? = some x → I i ρ h → Ens (bd x ρ h) (LQ (I (i + 1)) S)) (hd : ∀ ρ h, I xs.length ρ h → S (.nx ρ) h) : Ens (mLoop xs none bd xs ρ h) S :=
  e_loop I (i := 0) (by simp) (Nat.zero_le _) h0 hs hd
abbrev SI := (List M × Option Nat) → HpM → Prop
theorem e_iL {s : SI} (q : Ens (ma ρ h) fun x h1 => ∃ xs, x = .lst xs ∧ s (xs, none) h1) : Ens (iL ma ρ h) s := .bnd (q.mono fun x h1 q => by obtain ⟨xs, rfl, q⟩ := q; exact .ret q)
theorem e_iT {s : SI} (q : Ens (ma ρ h) fun x h1 => ∃ xs, x = .tup xs ∧ s (xs, none) h1) : Ens (iT ma ρ h) s := .bnd (q.mono fun x h1 q => by obtain ⟨xs, rfl, q⟩ := q; exact .ret q)
theorem e_iS {s : SI} (q : Ens (ma ρ h) fun x h1 => ∃ z : Str, x = .str z ∧ s (z.cps.toList.map fun c => M.str ⟨#[c]⟩, none) h1) : Ens (iS ma ρ h) s := .bnd (q.mono fun x h1 q => by obtain ⟨xs, rfl, q⟩ := q; exact .ret q)
theorem e_iR1 {s : SI} (q : Ens (mas ρ h) fun xs h1 => ∃ j : Int, xs = [.int j] ∧ (-4611686018427387904 ≤ j ∧ j < 4611686018427387904) ∧ s ((List.range j.toNat).map fun (i : Nat) => M.int (i : Int), none) h1) : Ens (iR1 mas ρ h) s := .bnd (q.mono fun x h1 q => by
  obtain ⟨j, rfl, hj, q⟩ := q
  show Ens (if _ then _ else _) s
  rw [if_pos hj]; exact .ret q)
theorem e_comps {xs : List M} {g : FG} {c : FT} {e : FE} {τ : EnvM} {V : List M → HpM → Prop} (J : Nat → List M → HpM → Prop) : ∀ {l : List M} {i : Nat} {acc : List M} {h : HpM}, l = xs.drop i → i ≤ xs.length → J i acc h →
    (∀ i x acc h, xs[i]? = some x → J i acc h → Ens (g x τ h) fun τ' h1 => Ens (c τ' h1) fun t h2 => if t = true then Ens (e τ' h2) fun y h3 => J (i + 1) (acc ++ [y]) h3 else J (i + 1) acc h2) →
    (∀ acc h, J xs.length acc h → V acc h) → Ens (mComps xs none g c e τ l h) fun ys h' => V (acc ++ ys) h'
  | [], i, acc, h, e, hi, hJ, _, hd => by
    have : i = xs.length := by
      have := congrArg List.length e
      simp at this; omega
    subst this
    unfold mComps
    rw [if_pos (show okS xs none h from trivial)]
    refine .ret ?_
    rw [List.append_nil]
    exact hd acc h hJ
  | x :: r, i, acc, h, e, hi, hJ, hs, hd => by
    have hx : xs[i]? = some x := by
      have := congrArg (fun l : List M => l[0]?) e
      simpa using this.symm
    have hr : r = xs.drop (i + 1) := by
      have := congrArg List.tail e
      simpa using this
    have hlt : i < xs.length := (List.getElem?_eq_some_iff.mp hx).1
    unfold mComps
    rw [if_pos (show okS xs none h from trivial)]
    refine .bnd ((hs i x acc h hx hJ).mono fun τ' h1 q => .bnd (q.mono fun t h2 q => ?_))
    cases t with
    | false => exact e_comps J hr hlt q hs hd
    | true =>
      refine .bnd (q.mono fun y h3 q => .bnd ((e_comps J hr hlt q hs hd).mono fun ys h4 q => .ret ?_))
      simpa using q
theorem e_comp {ix : List (Option Nat)} {i : FI} {g : FG} {c : FT} {e : FE} (q : Ens (i ρ h) fun s h1 => s.1.length ≤ 16777216 ∧ Ens (mComps s.1 s.2 g c e (tauM ix ρ) s.1 h1) fun ys h2 => R (.lst ys) h2) : Ens (mComp ix i g c e ρ h) R :=
  .bnd (q.mono fun s h1 q => by rw [if_pos q.1]; exact .bnd (q.2.mono fun ys h2 q => .ret q))
theorem e_over2 {xs : List M} {g : FG} {c : FT} {e : FE} {τ : EnvM} {V : List M → HpM → Prop} (J : Nat → List M → HpM → Prop) (h0 : J 0 [] h)
    (hs : ∀ i x acc h, xs[i]? = some x → J i acc h → Ens (g x τ h) fun τ' h1 => Ens (c τ' h1) fun t h2 => if t = true then Ens (e τ' h2) fun y h3 => J (i + 1) (acc ++ [y]) h3 else J (i + 1) acc h2)
    (hd : ∀ acc h, J xs.length acc h → V acc h) : Ens (mComps xs none g c e τ xs h) V := (e_comps (V := V) J (i := 0) (acc := []) (by simp) (Nat.zero_le _) h0 hs hd).mono fun ys h q => by simpa using q
end
section
variable {R : M → Prop} {h : HpM}
theorem p_addI {i j : Int} (q : R (.int (i + j))) : Enp (opAdd (.int i) (.int j) h) R := ⟨_, rfl, q⟩
theorem p_subI {i j : Int} (q : R (.int (i - j))) : Enp (opSub (.int i) (.int j) h) R := ⟨_, rfl, q⟩
theorem p_mulI {i j : Int} (e : (-18446744073709551616 < i ∧ i < 18446744073709551616) ∨ (-18446744073709551616 < j ∧ j < 18446744073709551616)) (q : R (.int (i * j))) : Enp (opMul (.int i) (.int j) h) R := ⟨_, if_pos e, q⟩
theorem p_mod {i j : Int} (e : 0 < j) (q : R (.int (i % j))) : Enp (opMod (.int i) (.int j) h) R := ⟨_, if_pos e, q⟩
theorem p_div {i j : Int} (e : 0 < j ∧ j < 1073741824) (q : R (.int (i / j))) : Enp (opDiv (.int i) (.int j) h) R := ⟨_, if_pos e, q⟩
theorem p_pow {i j : Int} (e : 0 ≤ j ∧ j ≤ 1000000 ∧ i.natAbs < 18446744073709551616) (q : R (.int (i ^ j.toNat))) : Enp (opPow (.int i) (.int j) h) R := ⟨_, if_pos e, q⟩
theorem p_ltI {i j : Int} (q : R (.bl (decide (i < j)))) : Enp (opLt (.int i) (.int j) h) R := ⟨_, rfl, q⟩
theorem p_leI {i j : Int} (q : R (.bl (decide (i ≤ j)))) : Enp (opLe (.int i) (.int j) h) R := ⟨_, rfl, q⟩
theorem p_gtI {i j : Int} (q : R (.bl (decide (j < i)))) : Enp (opGt (.int i) (.int j) h) R := ⟨_, rfl, q⟩
theorem p_ltS {i j : Str} (q : R (.bl (decide (i.cps.toList < j.cps.toList)))) : Enp (opLt (.str i) (.str j) h) R := ⟨_, rfl, q⟩
theorem p_eqI {i j : Int} (q : R (.bl (i == j))) : Enp (opEq (.int i) (.int j) h) R := ⟨_, rfl, q⟩
theorem p_neI {i j : Int} (q : R (.bl (!(i == j)))) : Enp (opNe (.int i) (.int j) h) R := ⟨_, rfl, q⟩
theorem p_eqS {i j : Str} (q : R (.bl (i == j))) : Enp (opEq (.str i) (.str j) h) R := ⟨_, rfl, q⟩
theorem p_eqB {i j : Bool} (q : R (.bl (i == j))) : Enp (opEq (.bl i) (.bl j) h) R := ⟨_, rfl, q⟩
theorem p_neB {i j : Bool} (q : R (.bl (!(i == j)))) : Enp (opNe (.bl i) (.bl j) h) R := ⟨_, rfl, q⟩
theorem p_abs {i : Int} (q : R (.int (if i < 0 then -i else i))) : Enp (bAbs [.int i] h) R := ⟨_, rfl, q⟩
theorem p_intB {i : Bool} (q : R (.int (if i then 1 else 0))) : Enp (bInt [.bl i] h) R := ⟨_, rfl, q⟩
theorem p_lenL {xs : List M} (q : R (.int xs.length)) : Enp (bLen [.lst xs] h) R := ⟨_, rfl, q⟩
theorem p_lenT {xs : List M} (q : R (.int xs.length)) : Enp (bLen [.tup xs] h) R := ⟨_, rfl, q⟩
theorem p_lenS {z : Str} (e : z.length ≤ 16777216) (q : R (.int z.length)) : Enp (bLen [.str z] h) R := ⟨_, if_pos e, q⟩
theorem p_ixL {xs : List M} {i : Int} {d : M} (e : atI xs i = some d) (q : R d) : Enp (ixM (.lst xs) (.int i) h) R := ⟨d, e, q⟩
theorem p_ixR {xs : List M} {k : Nat} {i : Int} {d : M} (e0 : h[k]? = some (.lst xs)) (e : atI xs i = some d) (q : R d) : Enp (ixM (.ref k) (.int i) h) R := ⟨d, by
  unfold ixM
  rw [show dctOf h (.ref k) = none by show (match h[k]? with | some (.dct kvs) => some kvs | _ => none) = none; rw [e0]]
  show (seqR h (.ref k)).bind _ = _; rw [show seqR h (.ref k) = some xs by show (match h[k]? with | some (.lst xs) => some xs | _ => none) = some xs; rw [e0]]; exact e, q⟩
theorem p_ixS {z : Str} {i : Int} {c : Nat} (e0 : z.length ≤ 16777216) (e : atI z.cps.toList i = some c) (q : R (.str ⟨#[c]⟩)) : Enp (ixM (.str z) (.int i) h) R := ⟨_, by show (if _ then _ else _) = _; rw [if_pos e0, e]; rfl, q⟩
theorem p_addL {xs ys : List M} (e : xs.length + ys.length ≤ 16777216) (q : R (.lst (xs ++ ys))) : Enp (opAdd (.lst xs) (.lst ys) h) R := ⟨_, by show (if _ then _ else _) = _; rw [if_pos e], q⟩
theorem p_slC {ns : List Int} {lo hi : Option Int} (q : R (.lst (cutM (ns.map M.int) lo hi))) : Enp (slM (.scr ns) lo hi h) R := ⟨_, rfl, q⟩
theorem p_inst {x : M} {c : String} (e : tyM h x ≠ "") (e2 : okTy c = true) (q : R (.bl (instB (tyM h x) c))) : Enp (bInst [x, .ty c] h) R := ⟨_, if_pos ⟨e, e2⟩, q⟩
end
theorem ite_b {A B : Prop} {c : Bool} (h1 : c = true → A) (h2 : c = false → B) : if c = true then A else B := by cases c; exact h2 rfl; exact h1 rfl
theorem ite_t {A B : Prop} (h : A) : if (true = true) then A else B := h
theorem ite_f {A B : Prop} (h : B) : if (false = true) then A else B := h
end L2
set_option Elab.async false
set_option linter.all false
namespace L2
open PySem
section
variable {R : M → Prop} {h : HpM}
theorem pi_int_str {x : Int} (q : R (.bl false)) : Enp (bInst [(.int x), .ty "str"] h) R := p_inst (by show "int" ≠ ""; decide) (by decide) (by rw [show instB (tyM h (.int x)) "str" = false from (by show instB "int" "str" = _; decide)]; exact q)
theorem pi_int_int {x : Int} (q : R (.bl true)) : Enp (bInst [(.int x), .ty "int"] h) R := p_inst (by show "int" ≠ ""; decide) (by decide) (by rw [show instB (tyM h (.int x)) "int" = true from (by show instB "int" "int" = _; decide)]; exact q)
theorem pi_int_bool {x : Int} (q : R (.bl false)) : Enp (bInst [(.int x), .ty "bool"] h) R := p_inst (by show "int" ≠ ""; decide) (by decide) (by rw [show instB (tyM h (.int x)) "bool" = false from (by show instB "int" "bool" = _; decide)]; exact q)
theorem pi_str_str {x : Str} (q : R (.bl true)) : Enp (bInst [(.str x), .ty "str"] h) R := p_inst (by show "str" ≠ ""; decide) (by decide) (by rw [show instB (tyM h (.str x)) "str" = true from (by show instB "str" "str" = _; decide)]; exact q)
theorem pi_str_int {x : Str} (q : R (.bl false)) : Enp (bInst [(.str x), .ty "int"] h) R := p_inst (by show "str" ≠ ""; decide) (by decide) (by rw [show instB (tyM h (.str x)) "int" = false from (by show instB "str" "int" = _; decide)]; exact q)
theorem pi_tup_tuple {x : List M} (q : R (.bl true)) : Enp (bInst [(.tup x), .ty "tuple"] h) R := p_inst (by show "tuple" ≠ ""; decide) (by decide) (by rw [show instB (tyM h (.tup x)) "tuple" = true from (by show instB "tuple" "tuple" = _; decide)]; exact q)
theorem ite_nT {A B : Prop} (h : B) : if (!true) = true then A else B := h
theorem p_eqTT (q : R (.bl true)) : Enp (opEq (.bl true) (.bl true) h) R := ⟨_, rfl, q⟩
theorem p_eqTF (q : R (.bl false)) : Enp (opEq (.bl true) (.bl false) h) R := ⟨_, rfl, q⟩
theorem ite_nF {A B : Prop} (h : A) : if (!false) = true then A else B := h
theorem p_eqFT (q : R (.bl false)) : Enp (opEq (.bl false) (.bl true) h) R := ⟨_, rfl, q⟩
theorem p_eqFF (q : R (.bl true)) : Enp (opEq (.bl false) (.bl false) h) R := ⟨_, rfl, q⟩
theorem e_lqN {I : EnvM → HpM → Prop} {S : Out → HpM → Prop} {ρ : EnvM} (q : I ρ h) : LQ I S (.nx ρ) h := q
end
end L2
set_option Elab.async false
set_option linter.all false
set_option maxRecDepth 100000
namespace L2
open PySem PySem.Spec PyProof.Rows
section
variable {X : Cx} {K : PySem.W.Frag} {a b e : Expr} {es : List Expr} {ma mb : FE} {mas : FA} {pos p : Pos}
theorem const_int {i : Int} {t : Tok} : ConstM K (.int i) (.int i t) := ⟨.int i, ⟨t, rfl⟩, fun _ _ => rfl⟩
end
end L2
set_option Elab.async false
set_option linter.all false
set_option maxRecDepth 100000
namespace L2
open PySem PySem.Spec PyProof.Rows
structure Cal (P : Program) (w : World) (K : PySem.W.Frag) (mg : Str → Option Value) (base : Heap) (n : Nat) (x : Str) (m : FF) : Prop where
  ex : ∃ f fd ps, FnOk P w K mg base CX0 n f fd ps (spM K m) ∧ mg x = some (.ref f) ∧ PySem.W.keepIn K (.ref f) = true ∧ Binds K fd ps []
theorem Cal.of {P : Program} {w : World} {K : PySem.W.Frag} {mg : Str → Option Value} {base : Heap} {n : Nat} {x : Str} {m : FF} {f : Addr} {fd : FuncData} {ps : List Str} (F : FnOk P w K mg base CX0 n f fd ps (spM K m)) (h1 : mg x = some (.ref f)) (h2 : PySem.W.keepIn K (.ref f) = true) (h3 : Binds K fd ps []) : Cal P w K mg base n x m := ⟨f, fd, ps, F, h1, h2, h3⟩
section
variable {X : Cx} {e : Expr} {es : List Expr} {mas : FA} {pos p : Pos} {n : Nat} {x : Str} {m : FF}
theorem me_cal (C : Cal X.prog X.w X.K X.mg X.base n x m) (hr : Room n X.A) (q : NmOk X.env.scope x .globalImplicit) (ha : PA X (e :: es) (aM X.K mas)) (he : notStar e = true) (hpl : (backTo pos (starEach es X.env)).any (·.1) = false) : PE X (.Call (.Name x p) (e :: es) [] pos) (tM X.K (mCall m mas)) := by
  obtain ⟨f, fd, ps, F, h1, h2, h3⟩ := C.ex
  exact me_call F hr q h1 h2 h3 pass0 ha he hpl
end
end L2
set_option Elab.async false
set_option linter.all false
set_option maxRecDepth 100000
namespace L2
open PySem
def Kp (p : Nat) (h h' : HpM) : Prop := h'.length = h.length ∧ ∀ q, q ≠ p → h'[q]? = h[q]?
theorem Kp.trans {p : Nat} {h h1 h2 : HpM} (a : Kp p h h1) (b : Kp p h1 h2) : Kp p h h2 := ⟨b.1.trans a.1, fun q hq => (b.2 q hq).trans (a.2 q hq)⟩
theorem Kp.set {p : Nat} {h : HpM} {o : MO} : Kp p h (h.set p o) := ⟨by simp, fun q hq => List.getElem?_set_ne (Ne.symm hq)⟩
theorem set_at {p : Nat} {h : HpM} {o o' : MO} (e : h[p]? = some o) : (h.set p o')[p]? = some o' := List.getElem?_set_self (List.getElem?_eq_some_iff.mp e).1
theorem e_put {o i : FE} {x : M} {ρ : EnvM} {h : HpM} {G : EnvM → HpM → Prop} {k : Nat} {j : Int} {xs : List M} {n : Nat} (ho : o ρ h = some (.ref k, h)) (hi : i ρ h = some (.int j, h)) (e1 : h[k]? = some (.lst xs)) (e2 : ixN xs.length j = some n)
    (q : ∀ h', h'[k]? = some (.lst (xs.set n x)) → Kp k h h' → G ρ h') : Ens (gSubM o i x ρ h) G :=
  e_gsub ⟨_, _, ho, _, _, hi, k, j, xs, n, rfl, rfl, e1, e2, q _ (set_at e1) Kp.set⟩
theorem join {x : Option (Out × HpM)} {S : Out → HpM → Prop} (J : Out → HpM → Prop) (h1 : Ens x J) (h2 : ∀ o h, J o h → S o h) : Ens x S := h1.mono h2
theorem take_succ' {α : Type} {l : List α} {i : Nat} {x : α} (h : l[i]? = some x) : l.take (i + 1) = l.take i ++ [x] := by rw [List.take_add_one, h]; rfl
theorem cut_to {xs : List M} {k : Nat} (hk : k ≤ xs.length) : cutM xs none (some (k : Int)) = xs.take k := by
  unfold cutM; rw [HT.sIx_none, HT.sIx_nat, Nat.min_eq_left hk]; simp
theorem cut_from {xs : List M} {k : Nat} (hk : k ≤ xs.length) : cutM xs (some (k : Int)) none = xs.drop k := by
  unfold cutM; rw [HT.sIx_none, HT.sIx_nat, Nat.min_eq_left hk]
  rw [List.take_of_length_le (by rw [List.length_drop]; exact Nat.le_refl _)]
def pureB : Nat → M → Bool
  | _, .non => true
  | _, .bl _ => true
  | _, .int _ => true
  | _, .str z => decide (z.length ≤ 100)
  | k + 1, .tup xs => decide (xs.length ≤ 1000) && xs.all (pureB k)
  | k + 1, .lst xs => decide (xs.length ≤ 1000) && xs.all (pureB k)
  | _, _ => false
def Pu (k : Nat) (x : M) : Prop := pureB k x = true
theorem Pu.lst {k : Nat} {xs : List M} (hl : xs.length ≤ 1000) (h : ∀ y ∈ xs, Pu k y) : Pu (k + 1) (.lst xs) := by
  show (decide (xs.length ≤ 1000) && xs.all (pureB k)) = true
  rw [Bool.and_eq_true, List.all_eq_true]; exact ⟨decide_eq_true hl, h⟩
theorem Pu.un {k : Nat} {xs : List M} (h : Pu (k + 1) (.tup xs)) : ∀ y ∈ xs, Pu k y := by
  have : (decide (xs.length ≤ 1000) && xs.all (pureB k)) = true := h
  rw [Bool.and_eq_true, List.all_eq_true] at this; exact this.2
theorem Pu.unL {k : Nat} {xs : List M} (h : Pu (k + 1) (.lst xs)) : ∀ y ∈ xs, Pu k y := by
  have : (decide (xs.length ≤ 1000) && xs.all (pureB k)) = true := h
  rw [Bool.and_eq_true, List.all_eq_true] at this; exact this.2
theorem Pu.str {k : Nat} {z : Str} (h : z.length ≤ 100) : Pu k (.str z) := by cases k <;> exact decide_eq_true h
theorem Pu.int {k : Nat} {i : Int} : Pu k (.int i) := by cases k <;> rfl
theorem Pu.bl {k : Nat} {i : Bool} : Pu k (.bl i) := by cases k <;> rfl
theorem Pu.toD : ∀ {k : Nat} {x : M} (h : HpM), Pu k x → ∃ d, L2.toD h x = some d ∧ d.deep ≤ k ∧ match x with | .str z => d = .str z | .int i => d = .int i | .bl b => d = .bl b | .non => d = .non | .tup xs => ∃ ds, d = .tup ds | .lst xs => ∃ ds, d = .lst ds | _ => False
  | k, .non, h, _ => ⟨_, rfl, Nat.zero_le _, rfl⟩
  | k, .bl _, h, _ => ⟨_, rfl, Nat.zero_le _, rfl⟩
  | k, .int _, h, _ => ⟨_, rfl, Nat.zero_le _, rfl⟩
  | k, .str _, h, _ => ⟨_, rfl, Nat.zero_le _, rfl⟩
  | 0, .tup _, h, p => by cases p
  | 0, .lst _, h, p => by cases p
  | k + 1, .tup xs, h, p => by
    have hs : ∀ ys : List M, (∀ y ∈ ys, Pu k y) → ∃ ds, toDBs (lookD h 20) ys = some ds ∧ D.deeps ds ≤ k := by
      intro ys
      induction ys with
      | nil => exact fun _ => ⟨[], rfl, Nat.zero_le _⟩
      | cons y ys ih =>
        intro hy
        obtain ⟨d, e, dd, _⟩ := Pu.toD (k := k) (x := y) h (hy y List.mem_cons_self)
        obtain ⟨ds, es, dds⟩ := ih fun z hz => hy z (List.mem_cons_of_mem _ hz)
        refine ⟨d :: ds, ?_, Nat.max_le.mpr ⟨dd, dds⟩⟩
        unfold toDBs
        rw [show toDB (lookD h 20) y = some d from e, Option.bind_some, es]; rfl
    obtain ⟨ds, e, dd⟩ := hs xs p.un
    refine ⟨.tup ds, ?_, Nat.succ_le_succ dd, ds, rfl⟩
    show (toDBs (lookD h 20) xs).map D.tup = _
    rw [e]; rfl
  | k + 1, .lst xs, h, p => by
    have hs : ∀ ys : List M, (∀ y ∈ ys, Pu k y) → ∃ ds, toDBs (lookD h 20) ys = some ds ∧ D.deeps ds ≤ k := by
      intro ys
      induction ys with
      | nil => exact fun _ => ⟨[], rfl, Nat.zero_le _⟩
      | cons y ys ih =>
        intro hy
        obtain ⟨d, e, dd, _⟩ := Pu.toD (k := k) (x := y) h (hy y List.mem_cons_self)
        obtain ⟨ds, es, dds⟩ := ih fun z hz => hy z (List.mem_cons_of_mem _ hz)
        refine ⟨d :: ds, ?_, Nat.max_le.mpr ⟨dd, dds⟩⟩
        unfold toDBs
        rw [show toDB (lookD h 20) y = some d from e, Option.bind_some, es]; rfl
    obtain ⟨ds, e, dd⟩ := hs xs p.unL
    refine ⟨.lst ds, ?_, Nat.succ_le_succ dd, ds, rfl⟩
    show (toDBs (lookD h 20) xs).map D.lst = _
    rw [e]; rfl
  | 0, .dct _ _, h, p => by cases p
  | 0, .ref _, h, p => by cases p
  | 0, .scr _, h, p => by cases p
  | 0, .ty _, h, p => by cases p
  | k + 1, .dct _ _, h, p => by cases p
  | k + 1, .ref _, h, p => by cases p
  | k + 1, .scr _, h, p => by cases p
  | k + 1, .ty _, h, p => by cases p
def inTx (ss : List Str) : M → Bool
  | .str z => ss.any (· == z)
  | _ => false
section
variable {R : M → Prop} {h : HpM} {k : Nat} {x : M}
theorem anyTx {d : D} : ∀ {ss : List Str}, (match x with | .str z => d = .str z | .int i => d = .int i | .bl b => d = .bl b | .non => d = .non | .tup xs => ∃ ds, d = .tup ds | .lst xs => ∃ ds, d = .lst ds | _ => False) → ((ss.map D.str).any fun e => deq e d) = inTx ss x
  | [], sh => by
    cases x <;> first | rfl | exact sh.elim
  | s :: ss, sh => by
    rw [List.map_cons, List.any_cons, anyTx (ss := ss) sh]
    cases x with
    | non => cases (show d = _ from sh); rfl
    | bl _ => cases (show d = _ from sh); rfl
    | int _ => cases (show d = _ from sh); rfl
    | str _ => cases (show d = _ from sh); rfl
    | tup _ => obtain ⟨ds, rfl⟩ := sh; rfl
    | lst _ => obtain ⟨ds, rfl⟩ := sh; rfl
    | _ => exact sh.elim
theorem toDs_strs : ∀ (ss : List Str), toDs h (ss.map M.str) = some (ss.map D.str)
  | [] => rfl
  | s :: ss => by
    show (toDB (lookD h 20) (M.str s)).bind (fun d => (toDBs (lookD h 20) (ss.map M.str)).map (d :: ·)) = _
    rw [show toDBs (lookD h 20) (ss.map M.str) = some (ss.map D.str) from toDs_strs ss]; rfl
theorem deeps_strs : ∀ (ss : List Str), D.deeps (ss.map D.str) = 0
  | [] => rfl
  | s :: ss => by rw [List.map_cons, D.deeps, deeps_strs ss]; rfl
theorem anyD_tx {ss : List Str} {f : Bool → M} (hx : Pu k x) : anyD x (ss.map M.str) h f = some (f (inTx ss x)) := by
  obtain ⟨d, e, dd, sh⟩ := hx.toD h
  unfold anyD
  rw [toDs_strs, Option.bind_some, e, Option.bind_some, if_pos (by rw [deeps_strs]; omega), anyTx sh]
theorem p_inT {ss : List Str} (hx : Pu k x) (q : R (.bl (inTx ss x))) : Enp (opIn x (.tup (ss.map M.str)) h) R := ⟨_, anyD_tx hx, q⟩
theorem p_all {bs : List Bool} (q : R (.bl (bs.all id))) : Enp (bAll [.lst (bs.map M.bl)] h) R := by
  refine ⟨_, ?_, q⟩
  show (bls (bs.map M.bl)).map _ = _
  have : ∀ bs : List Bool, bls (bs.map M.bl) = some bs := by
    intro bs
    induction bs with
    | nil => rfl
    | cons b bs ih => show (bls (bs.map M.bl)).map (b :: ·) = _; rw [ih]; rfl
  rw [this]; rfl
end
end L2
set_option Elab.async false
set_option linter.all false
set_option maxRecDepth 100000
namespace L2
open PySem PySem.Spec PyProof.Rows
inductive ESrc where
  | lst (a : Addr) | tup (a : Addr)
def ESrc.val : ESrc → V
  | .lst a => .ref a
  | .tup a => .ref a
def eSq (K : PySem.W.Frag) (H : Hp) : ESrc → List V → Prop
  | .lst a, xs => SqL K H a xs
  | .tup a, xs => SqT K H a xs
def eSt (it : Addr) : ESrc → Nat → Heap → Prop
  | .lst a, i, h => h.IsListIter it a i
  | .tup a, i, h => h.IsTupleIter it a i
theorem eSt.obj {it : Addr} {z : ESrc} {i : Nat} {h : Heap} (q : eSt it z i h) : ∃ o c vs, h.get? it = some o ∧ o.cls = .type c ∧ (c = "list_iterator" ∨ c = "tuple_iterator") ∧ o.data = .fields vs := by
  cases z with
  | lst a => obtain ⟨o, e, c, d⟩ := q; exact ⟨o, _, _, e, c, .inl rfl, d⟩
  | tup a => obtain ⟨o, e, c, d⟩ := q; exact ⟨o, _, _, e, c, .inr rfl, d⟩
theorem eSt.keep {it : Addr} {z : ESrc} {i : Nat} {h h' : Heap} (q : eSt it z i h) (k : ∀ o, h.get? it = some o → h'.get? it = some o) : eSt it z i h' := by
  cases z with
  | lst a => obtain ⟨o, e, r⟩ := q; exact ⟨o, k o e, r⟩
  | tup a => obtain ⟨o, e, r⟩ := q; exact ⟨o, k o e, r⟩
theorem eDraws {X : Cx} {pins : List (Addr × Obj)} {σ : St} {H : Hp} {s : Shared} {A : Around} (I : Inv X pins σ H s) (hh : A.handled = none) {it : Addr} {z : ESrc} {i : Nat} {xs : List V} (hq : eSq X.K H z xs) (q : eSt it z i s.heap) :
    ∃ (f : List Addr) (P : Nat → Value → Prop) (St : Nat → Heap → Prop), Draws X.prog X.w A it f xs.length P St ∧ St i s.heap ∧ (∀ j v, P j v → ∃ x, RelV x v ∧ xs[j]? = some x) ∧ (∀ j h, St j h → eSt it z j h) ∧
      (∀ b ∈ f, b = it ∨ ∃ o, s.heap.get? b = some o ∧ (o.cls = .type "list" ∨ o.cls = .type "tuple")) ∧ ∀ ys, eSq X.K H z ys → ys = xs := by
  cases z with
  | lst a =>
    obtain ⟨its, r, pl, hz⟩ := I.list hq
    obtain ⟨ol, el, cl, _⟩ := id pl.isList
    obtain ⟨oi, ei, ci, _⟩ := id q
    have hne : a ≠ it := by
      intro z; subst z
      rw [el] at ei; cases ei
      rw [cl] at ci; exact absurd ci (by decide)
    have e : xs.length = its.toArray.size := by rw [List.size_toArray]; exact r.length
    refine ⟨[it, a], fun i v => its.toArray[i]? = some v, fun i h => h.IsListIter it a i ∧ h.IsList a its.toArray, by rw [e]; exact Draws.list hh it a hne its.toArray, ⟨q, pl.isList⟩, fun j v hv => ?_, fun j h x => x.1, fun b hb => ?_, fun ys hy => I.list_inj hy hq⟩
    · have hv' : its[j]? = some v := by simpa using hv
      have hj : j < xs.length := by rw [r.length]; exact (List.getElem?_eq_some_iff.mp hv').1
      obtain ⟨u, eu, ru⟩ := r.get (i := j) (x := xs[j]) (by simp [hj])
      rw [hv'] at eu; cases eu
      exact ⟨xs[j], ru, by simp [hj]⟩
    · rcases List.mem_cons.mp hb with z | z
      · exact .inl z
      · cases (List.mem_singleton.mp z)
        exact .inr ⟨ol, el, .inl cl⟩
  | tup a =>
    obtain ⟨its, r, pl, hz⟩ := I.tuple hq
    have pl' : s.heap.IsTuple a its.toArray := pl
    obtain ⟨ol, el, cl, _⟩ := id pl'
    obtain ⟨oi, ei, ci, _⟩ := id q
    have hne : a ≠ it := by
      intro z; subst z
      rw [el] at ei; cases ei
      rw [cl] at ci; exact absurd ci (by decide)
    have e : xs.length = its.toArray.size := by rw [List.size_toArray]; exact r.length
    refine ⟨[it, a], fun i v => its.toArray[i]? = some v, fun i h => h.IsTupleIter it a i ∧ h.IsTuple a its.toArray, by rw [e]; exact ES.drawsT hh it a hne its.toArray, ⟨q, pl'⟩, fun j v hv => ?_, fun j h x => x.1, fun b hb => ?_, fun ys hy => I.tuple_inj hy hq⟩
    · have hv' : its[j]? = some v := by simpa using hv
      have hj : j < xs.length := by rw [r.length]; exact (List.getElem?_eq_some_iff.mp hv').1
      obtain ⟨u, eu, ru⟩ := r.get (i := j) (x := xs[j]) (by simp [hj])
      rw [hv'] at eu; cases eu
      exact ⟨xs[j], ru, by simp [hj]⟩
    · rcases List.mem_cons.mp hb with z | z
      · exact .inl z
      · cases (List.mem_singleton.mp z)
        exact .inr ⟨ol, el, .inr cl⟩
def Ite (K : PySem.W.Frag) (a : ESrc) : It :=
  ⟨fun i H => ∃ xs, eSq K H a xs ∧ i < xs.length, fun i H v H' => ∃ x p, (∀ xs, eSq K H a xs → xs[i]? = some x) ∧ H p = none ∧ v = .ref p ∧ H' = upd H p (.tup [.int i, x]),
    fun i H => ∃ xs, eSq K H a xs ∧ i = xs.length⟩
theorem turn_enum {P : Program} {w : World} {K : PySem.W.Frag} {elts : List Expr} {k0 : Nat} {pos : Pos} {e it : Addr} {a : ESrc} (hei : e ≠ it) :
    Turn P w K (.Tuple elts k0 pos) (Ite K a) [e, it] e (fun i h => (∃ old, IsEnum h e it i old) ∧ eSt it a i h) where
  mem := by simp
  obj := fun i h st c hc => by
    obtain ⟨⟨old, s1⟩, s2⟩ := st
    simp only [List.mem_cons, List.not_mem_nil, or_false] at hc
    rcases hc with rfl | rfl
    · exact ⟨_, s1, fun v e => nomatch e⟩
    · obtain ⟨o, c, vs, e, _, _, d⟩ := s2.obj; exact ⟨o, e, fun v q => by rw [d] at q; cases q⟩
  keep := fun i h h' st k => by
    obtain ⟨⟨old, s1⟩, s2⟩ := st
    exact ⟨⟨old, k e (by simp) _ s1⟩, s2.keep fun o x => k it (by simp) o x⟩
  item := by
    intro X hP hw hK hc i pins s σ H E I hf st hg
    subst hP hw hK
    obtain ⟨⟨old, s1⟩, s2⟩ := st
    obtain ⟨xs, hq, hi⟩ := hg
    have hh : X.A.in1.handled = none := I.ok.hd hc
    obtain ⟨f, P, St, D, st, pp, b1, q1, inj⟩ := eDraws I hh hq s2
    have hef : e ∉ f := fun z => by
      rcases q1 e z with h | ⟨o, h, c⟩
      · exact hei h
      · rw [s1] at h; cases h
        rcases c with c | c <;> (injection c with c; exact absurd c (by decide))
    refine wpAny_pyNext_enum_itemD D s1 st hi hei hef fun u h' tk pu ho st' hT hsz hk => ⟨_, rfl, ?_⟩
    refine PySem.wpAny_letOwnedTupleGo_enum ho fun h'' he'' hs'' => ?_
    obtain ⟨x, rx, ax⟩ := pp i u pu
    have hpe : s.heap.objs.size ≠ e := Nat.ne_of_gt (Heap.lt_size s1)
    have keepAll : ∀ c o, c ∉ [e, it] → s.heap.get? c = some o → h''.get? c = some o := fun c o hc x => by
      simp only [List.mem_cons, List.not_mem_nil, or_false, not_or] at hc
      exact hs''.extBut _ _ hc.1 (hk c o hc.1 hc.2 x)
    have hT'' := hs''.extBut _ _ hpe hT
    refine ⟨.ref s.heap.objs.size, upd H s.heap.objs.size (.tup [.int i, x]), I.turnedT (its := [.int i tk, u]) keepAll hf (Nat.le_refl _) (.cons ⟨tk, rfl⟩ (.cons rx .nil)) (by show 2 ≤ sizeLine; rw [sizeLine_eq]; decide) ⟨_, hT'', ⟨rfl, rfl⟩, _, rfl⟩, rfl, ⟨x, _, fun ys hy => by rw [inj ys hy]; exact ax, I.hok.fresh (Nat.le_refl _), rfl, rfl⟩, ?_, fun c hc => ?_⟩
    · exact ⟨⟨_, he''⟩, (b1 _ _ st').keep fun o z => hs''.extBut _ _ hei.symm z⟩
    · have : c ≠ s.heap.objs.size := by
        have hlt : c < s.heap.objs.size := by
          simp only [List.mem_cons, List.not_mem_nil, or_false] at hc
          rcases hc with rfl | rfl
          · exact Heap.lt_size s1
          · obtain ⟨o, c, vs, e, _⟩ := s2.obj; exact Heap.lt_size e
        exact Nat.ne_of_lt hlt
      rw [upd_ne this]; exact (hf c hc).1
  done := by
    intro X hP hw hK hc i pins s σ H E I hf st hg
    subst hP hw hK
    obtain ⟨⟨old, s1⟩, s2⟩ := st
    obtain ⟨xs, hq, rfl⟩ := hg
    have hh : X.A.in1.handled = none := I.ok.hd hc
    obtain ⟨f, P, St, D, st, pp, b1, q1, inj⟩ := eDraws I hh hq s2
    refine wpAny_pyNext_enum_endD D s1 st fun h' hx => ⟨rfl, I.turnedL (t' := s.toks) (fun c o hc z => ?_) hf⟩
    simp only [List.mem_cons, List.not_mem_nil, or_false, not_or] at hc
    exact hx c o hc.2 z
  self := fun A i s Q E st h => by
    obtain ⟨⟨old, he⟩, _⟩ := st
    exact wpAny_pyIter_enum he h
def iEn (K : PySem.W.Frag) (ta : TA) : TI := fun σ H R => ta σ H fun vs H1 => ∃ a : ESrc, vs = [a.val] ∧ (∃ xs, eSq K H1 a xs) ∧ R (Ite K a) H1
theorem pi_enum {X : Cx} {x : Expr} {ta : TA} {p pos : Pos} {elts : List Expr} {k0 : Nat} {tp : Pos} (hg : Gl X "enumerate") (hm : X.mg "enumerate" = none) (ha : PA X [x] ta) (hs : starEach [x] X.env = [(false, eval x X.env)]) :
    PI X (.Tuple elts k0 tp) (.Call (.Name "enumerate" p) [x] [] pos) (iEn X.K ta) := by
  intro pins s σ H R I h
  refine Call_ (ld_blt I hg hm (show bootBuiltins "enumerate" = some (.type "enumerate") by decide +kernel) (PyProof.Rows.callWith_type1 (thn (ha pos pins s σ H _ I h) fun us s1 ⟨vs, H1, I1, r1, q1⟩ => ?_) hs rfl))
  obtain ⟨a, rfl, ⟨xs, hq⟩, q⟩ := q1
  have fin : ∀ h', IsEnum h' (s1.heap.objs.size + 1) s1.heap.objs.size 0 .none → eSt s1.heap.objs.size a 0 h' → h'.objs.size = s1.heap.objs.size + 2 →
      (∀ b o, s1.heap.get? b = some o → h'.get? b = some o) → wpAny (model X.prog X.w) X.A (pyIter (.ref (s1.heap.objs.size + 1))) (PIE X pins σ (.Tuple elts k0 tp) R) X.xe { s1 with heap := h' } := fun h' he hi hsz hk => by
    have I2 : Inv X pins σ H1 { s1 with heap := h' } := I1.kept (t' := s1.toks) hk
    have st : (∃ old, IsEnum h' (s1.heap.objs.size + 1) s1.heap.objs.size ((0 : Nat) : Int) old) ∧ eSt s1.heap.objs.size a 0 h' := ⟨⟨_, he⟩, hi⟩
    have hne : s1.heap.objs.size + 1 ≠ s1.heap.objs.size := Nat.succ_ne_self _
    refine (turn_enum (P := X.prog) (w := X.w) (K := X.K) (elts := elts) (k0 := k0) (pos := tp) hne).self _ 0 _ _ _ st ⟨_, _, _, Ite X.K a, H1, rfl, I2, turn_enum hne, st, fun c hc => ?_, q⟩
    have hge : s1.heap.objs.size ≤ c := by
      simp only [List.mem_cons, List.not_mem_nil, or_false] at hc
      rcases hc with rfl | rfl
      · exact Nat.le_add_right _ _
      · exact Nat.le_refl _
    exact I1.fpOk hge (I1.hok.fresh hge)
  cases r1 with
  | cons r rr =>
    cases rr
    cases a with
    | lst a =>
      cases (show _ = Value.ref a from r)
      obtain ⟨its, _, pl, _⟩ := I1.list hq
      exact call_enumerate_list pl.isList fin
    | tup a =>
      cases (show _ = Value.ref a from r)
      obtain ⟨its, _, pl, _⟩ := I1.tuple hq
      exact ES.call_enumerate_tuple pl fin
end L2
set_option Elab.async false
set_option linter.all false
set_option maxRecDepth 100000
namespace L2
open PySem PySem.Spec PyProof.Rows
section
variable {X : Cx} {K : PySem.W.Frag} {mas : FA} {p pos : Pos}
def eOfM : M → Option (List M)
  | .lst xs => some xs
  | .tup xs => some xs
  | .scr ns => some (ns.map M.int)
  | _ => none
def numd (xs : List M) : List M := (List.range xs.length).zipWith (fun (i : Nat) x => M.tup [.int (i : Int), x]) xs
theorem numd_length (xs : List M) : (numd xs).length = xs.length := by simp [numd]
theorem numd_get {xs : List M} {i : Nat} : (numd xs)[i]? = (xs[i]?).map fun x => M.tup [.int (i : Int), x] := by
  unfold numd
  rw [List.getElem?_zipWith]
  by_cases h : i < xs.length
  · rw [List.getElem?_range h, List.getElem?_eq_getElem h]; rfl
  · have h1 : (List.range xs.length)[i]? = none := List.getElem?_eq_none (by simp; omega)
    have h2 : xs[i]? = none := List.getElem?_eq_none (by omega)
    rw [h1, h2]; rfl
def iEnumerate (a : FA) : FI := fun ρ h => bnd (a ρ h) fun xs h1 => match xs with
  | [x] => (eOfM x).bind fun us => some ((numd us, none), h1)
  | _ => none
def eKind : M → Bool
  | .tup _ => true
  | _ => false
theorem eOfM_srcK {α : Pl} {H : Hp} {m : M} {a : Addr} {us : List M} (e : eOfM m = some us) (r : RepA K α H m (.ref a)) : ∃ vs : List V, eSq K H (if eKind m then .tup a else .lst a) vs ∧ RepAs K α H us vs := by
  unfold eOfM at e
  split at e
  · cases e
    obtain ⟨a', vs, q, n, ha, rs⟩ := r
    cases q
    exact ⟨vs, SqL.of ha, rs⟩
  · cases e
    obtain ⟨a', vs, q, t, rs⟩ := r
    cases q
    exact ⟨vs, t.sq, rs⟩
  · cases e
    obtain ⟨a', q, t⟩ := r
    cases q
    exact ⟨_, t.sq, RepAs.ints⟩
  · cases e
theorem eOfM_ref {α : Pl} {H : Hp} {m : M} {v : V} {us : List M} (e : eOfM m = some us) (r : RepA K α H m v) : ∃ a, v = .ref a := by
  unfold eOfM at e
  split at e
  · obtain ⟨a, vs, rfl, _⟩ := r; exact ⟨a, rfl⟩
  · obtain ⟨a, vs, rfl, _⟩ := r; exact ⟨a, rfl⟩
  · obtain ⟨a, rfl, _⟩ := r; exact ⟨a, rfl⟩
  · cases e
theorem mi_enumerate {x : Expr} {elts : List Expr} {k0 : Nat} {tp : Pos} (q : NmOk X.env.scope "enumerate" .globalImplicit) (hm : X.mg "enumerate" = none) (ha : PA X [x] (aM X.K mas)) (hs : starEach [x] X.env = [(false, eval x X.env)]) (hs2 : True := trivial) :
    PI X (.Tuple elts k0 tp) (.Call (.Name "enumerate" p) [x] [] pos) (iM X.K (iEnumerate mas)) := (pi_enum q.lk hm ha hs).imp fun σ H R ⟨α, ρ, h, s, h', hσ, hr, e, k⟩ => by
  obtain ⟨xs, h1, e1, e⟩ := bnd_inv e
  split at e
  · rename_i m
    obtain ⟨us, e2, e⟩ := Option.bind_eq_some_iff.mp e
    cases e
    refine ⟨α, ρ, h, _, _, hσ, hr, e1, fun α1 H1 ws ev1 hr1 rs => ?_⟩
    obtain ⟨u, rfl, ru⟩ := rep1 rs
    obtain ⟨a, rfl⟩ := eOfM_ref e2 ru
    obtain ⟨vs, sq, rvs⟩ := eOfM_srcK e2 ru
    refine ⟨if eKind m then .tup a else .lst a, by split <;> rfl, ⟨vs, sq⟩, k α1 H1 _ ev1 hr1 fun γ hγ α2 h2 H2 ev2 hr2 _ i => ?_⟩
    have ru2 := (ru.hides hγ).ev ev2
    refine ⟨fun z hz => ?_, fun hl => ?_⟩
    · obtain ⟨vs2, sq2, rvs2⟩ := eOfM_srcK e2 ru2
      rw [numd_get] at hz
      cases qu : us[i]? with
      | none => rw [qu] at hz; cases hz
      | some w =>
        rw [qu] at hz
        cases hz
        have hi : i < vs2.length := by rw [← rvs2.length]; exact (List.getElem?_eq_some_iff.mp qu).1
        refine ⟨⟨vs2, sq2, hi⟩, fun v H3 y => ?_⟩
        obtain ⟨y, p, hy, hp, rfl, rfl⟩ := y
        refine ⟨same_new hp _, laidT hr2 hp ⟨_, _, rfl, rfl, y, _, rfl, ?_, rfl⟩⟩
        obtain ⟨v', hv', rv'⟩ := rvs2.get qu
        have := hy vs2 sq2
        rw [hv'] at this
        cases this
        exact rv'
    · obtain ⟨vs2, sq2, rvs2⟩ := eOfM_srcK e2 ru2
      exact ⟨vs2, sq2, by rw [hl, numd_length, rvs2.length]⟩
  · cases e
def putM (kvs : List (Key × M)) (k : Key) (v : M) : List (Key × M) := if (kvs.any fun kv => decide (kv.1 = k)) then kvs.map fun kv => if kv.1 = k then (kv.1, v) else kv else kvs ++ [(k, v)]
def mergeM (kvs more : List (Key × M)) : List (Key × M) := more.foldl (fun acc kv => putM acc kv.1 kv.2) kvs
def RepD (K : PySem.W.Frag) (α : Pl) (H : Hp) (kvs : List (Key × M)) (ws : List (Key × V)) : Prop := ws.map (·.1) = kvs.map (·.1) ∧ RepAs K α H (kvs.map (·.2)) (ws.map (·.2))
theorem RepD.inv {α : Pl} {H : Hp} {kv : Key × M} {kvs : List (Key × M)} {ws : List (Key × V)} (r : RepD K α H (kv :: kvs) ws) : ∃ w ws', ws = w :: ws' ∧ w.1 = kv.1 ∧ RepA K α H kv.2 w.2 ∧ RepD K α H kvs ws' := by
  obtain ⟨e, r⟩ := r
  cases ws with
  | nil => cases e
  | cons w ws =>
    obtain ⟨v, q, e1, h1, h2⟩ := r
    have e1' : w.2 :: ws.map (·.2) = v :: q := e1
    injection e1' with ev eq
    subst ev eq
    have e' : w.1 :: ws.map (·.1) = kv.1 :: kvs.map (·.1) := e
    injection e' with ek es
    exact ⟨w, ws, rfl, ek, h1, es, h2⟩
theorem RepD.nil {α : Pl} {H : Hp} : RepD K α H [] [] := ⟨rfl, rfl⟩
theorem RepD.nil_inv {α : Pl} {H : Hp} {ws : List (Key × V)} (r : RepD K α H [] ws) : ws = [] := by
  have := r.1
  cases ws with
  | nil => rfl
  | cons _ _ => cases this
theorem RepD.cons {α : Pl} {H : Hp} {kv : Key × M} {kvs : List (Key × M)} {w : Key × V} {ws : List (Key × V)} (e : w.1 = kv.1) (h : RepA K α H kv.2 w.2) (r : RepD K α H kvs ws) : RepD K α H (kv :: kvs) (w :: ws) :=
  ⟨by rw [List.map_cons, List.map_cons, e, r.1], ⟨_, _, rfl, h, r.2⟩⟩
theorem RepD.ev {α α' : Pl} {H H' : Hp} (e : Ev α α' H H') {kvs : List (Key × M)} {ws : List (Key × V)} (r : RepD K α H kvs ws) : RepD K α' H' kvs ws := ⟨r.1, r.2.ev e⟩
theorem RepD.put {α : Pl} {H : Hp} {k : Key} {m : M} {v : V} (hm : RepA K α H m v) {kvs : List (Key × M)} {ws : List (Key × V)} (r : RepD K α H kvs ws) : RepD K α H (putM kvs k m) (putK ws k v) := by
  have ha : ∀ {kvs : List (Key × M)} {ws : List (Key × V)}, RepD K α H kvs ws → (kvs.any fun kv => decide (kv.1 = k)) = ws.any fun kv => decide (kv.1 = k) := by
    intro kvs
    induction kvs with
    | nil => intro ws r; cases r.nil_inv; rfl
    | cons kv kvs ih =>
      intro ws r
      obtain ⟨w, ws', rfl, e, _, r'⟩ := r.inv
      rw [List.any_cons, List.any_cons, ih r', e]
  unfold putM putK
  rw [ha r]
  split
  · rename_i hc
    clear hc
    induction kvs generalizing ws with
    | nil => cases r.nil_inv; exact .nil
    | cons kv kvs ih =>
      obtain ⟨w, ws', rfl, e, h1, r'⟩ := r.inv
      rw [List.map_cons, List.map_cons]
      refine RepD.cons ?_ ?_ (ih r')
      · by_cases hk : kv.1 = k
        · rw [if_pos hk, if_pos (e.trans hk)]; exact e
        · rw [if_neg hk, if_neg (fun z => hk (e.symm.trans z))]; exact e
      · by_cases hk : kv.1 = k
        · rw [if_pos hk, if_pos (e.trans hk)]; exact hm
        · rw [if_neg hk, if_neg (fun z => hk (e.symm.trans z))]; exact h1
  · refine ⟨?_, ?_⟩
    · rw [List.map_append, List.map_append, r.1]; rfl
    · rw [List.map_append, List.map_append]; exact r.2.snoc hm
theorem RepD.merge {α : Pl} {H : Hp} : ∀ {more : List (Key × M)} {mw : List (Key × V)} {kvs : List (Key × M)} {ws : List (Key × V)}, RepD K α H more mw → RepD K α H kvs ws → RepD K α H (mergeM kvs more) (mergeK ws mw)
  | [], mw, kvs, ws, h, r => by cases h.nil_inv; exact r
  | kv :: more, mw, kvs, ws, h, r => by
    obtain ⟨w, mw', rfl, e, h1, h'⟩ := h.inv
    show RepD K α H (mergeM (putM kvs kv.1 kv.2) more) (mergeK (putK ws w.1 w.2) mw')
    rw [e]
    exact RepD.merge h' (r.put h1)
end
section
variable {R : M → HpM → Prop} {ρ : EnvM} {h : HpM} {mas : FA}
theorem e_iEnum {s : SI} (q : Ens (mas ρ h) fun xs h1 => ∃ x us, xs = [x] ∧ eOfM x = some us ∧ s (numd us, none) h1) : Ens (iEnumerate mas ρ h) s := .bnd (q.mono fun x h1 q => by
  obtain ⟨x, us, rfl, e1, q⟩ := q
  exact ⟨_, h1, by show (eOfM x).bind _ = _; rw [e1]; rfl, q⟩)
end
end L2
set_option Elab.async false
set_option linter.all false
set_option maxRecDepth 100000
set_option Elab.async false
set_option linter.all false
namespace L2
open PySem PySem.Spec PyProof.Rows
section
variable {X : Cx} {a b c d : Expr} {es : List Expr} {ma mb mc md : FE} {mas : FA}
theorem ma_1 (ha : PE X a (tM X.K ma)) (h1 : notStar a = true) : PA X [a] (aM X.K (mCons ma mNil)) := ma_cons ha ma_nil h1
theorem ma_2 (ha : PE X a (tM X.K ma)) (hb : PE X b (tM X.K mb)) (h1 : notStar a = true) (h2 : notStar b = true) : PA X [a, b] (aM X.K (mCons ma (mCons mb mNil))) := ma_cons ha (ma_1 hb h2) h1
theorem ma_3 (ha : PE X a (tM X.K ma)) (hb : PE X b (tM X.K mb)) (hc : PE X c (tM X.K mc)) (h1 : notStar a = true) (h2 : notStar b = true) (h3 : notStar c = true) : PA X [a, b, c] (aM X.K (mCons ma (mCons mb (mCons mc mNil)))) := ma_cons ha (ma_2 hb hc h2 h3) h1
theorem ma_c4 (ha : PE X a (tM X.K ma)) (hb : PE X b (tM X.K mb)) (hc : PE X c (tM X.K mc)) (hd : PE X d (tM X.K md)) (hr : PA X es (aM X.K mas)) (h1 : notStar a = true) (h2 : notStar b = true) (h3 : notStar c = true) (h4 : notStar d = true) : PA X (a :: b :: c :: d :: es) (aM X.K (mCons ma (mCons mb (mCons mc (mCons md mas))))) := ma_cons ha (ma_cons hb (ma_cons hc (ma_cons hd hr h4) h3) h2) h1
theorem ma_4 (ha : PE X a (tM X.K ma)) (hb : PE X b (tM X.K mb)) (hc : PE X c (tM X.K mc)) (hd : PE X d (tM X.K md)) (h1 : notStar a = true) (h2 : notStar b = true) (h3 : notStar c = true) (h4 : notStar d = true) : PA X [a, b, c, d] (aM X.K (mCons ma (mCons mb (mCons mc (mCons md mNil))))) := ma_c4 ha hb hc hd ma_nil h1 h2 h3 h4
end
end L2
set_option Elab.async false
set_option linter.all false
set_option maxRecDepth 100000
set_option maxHeartbeats 1000000
set_option Elab.async false
set_option linter.all false
set_option maxRecDepth 100000
set_option maxHeartbeats 1000000
set_option Elab.async false
set_option linter.all false
set_option maxRecDepth 100000
set_option Elab.async false
set_option linter.all false
set_option maxRecDepth 100000
set_option Elab.async false
set_option linter.all false
set_option maxRecDepth 100000
set_option maxHeartbeats 1000000
namespace ZT
open PySem PyProof.Rows
theorem keys_none_list : typeLookup (.type "list") "keys" = pure none := am_miss_of_fast (by decide +kernel)
theorem keys_none_tuple : typeLookup (.type "tuple") "keys" = pure none := am_miss_of_fast (by decide +kernel)
theorem keys_plain : (["__module__", "__name__", "__qualname__", "__doc__", "__annotations__"] : List Str).contains "keys" = false := by decide +kernel
section
variable {prog : Program} {w : World} {A : Around} {E : Value → Shared → Prop} {s : Shared}
theorem no_keys_list {a : Addr} {o : Obj} {xs : Array Value} {k : Nat} {Q : Option Value → Shared → Prop} (hx : s.heap.get? a = some o) (hc : o.cls = .type "list") (hdat : o.data = .seq xs k) (hd : o.dict = none) (hA : A.handled = none)
    (h : ∀ h' tk, (∀ b o, s.heap.get? b = some o → h'.get? b = some o) → Q none { s with heap := h', toks := tk }) : wpAny (model prog w) A (getAttr? (.ref a) "keys") Q E s := by
  obtain ⟨c, dct, dat, sl⟩ := o
  simp only at hc hdat hd
  subst hc hdat hd
  obtain ⟨hp, g, d, tk, os⟩ := s
  have hT : ∀ tk', (⟨hp, g, d, tk', os⟩ : Shared).TypeIs (.ref a) "list" := fun _ => ⟨_, hx, rfl⟩
  have f1 := sub_AttributeError
  have f3 := F.slot_list_getattribute.lookup
  have f4 := F.slot_list_getattribute.bind (.ref a)
  have f5 := am_list_getattr_none
  unfold getAttr? getAttrBy? getAttrBy
  repeat (any_goals (first | assumption | exact hT _ | ((with_reducible show wpAny _ _ (call (Value.builtin "list.__getattribute__") _ _) _ _ _); refine call_meets F.slot_list_getattribute (hT _) am_entry_list_getattribute (F.args_list_getattribute_2 _ _) (meets_getattribute_miss_list a xs k sl "keys" _ keys_none_list keys_plain) ⟨hx, hA, fun h' tk' e hx' => ?_⟩) | wp_step))
  obtain ⟨t', u', he⟩ := hx'.there
  show wpAny _ _ (getattributeRaised _ _ _ _ _ _ _) _ _ _
  unfold getattributeRaised
  repeat (any_goals (first | assumption | wp_step))
  exact h _ _ hx'.keeps
theorem no_keys_tuple {a : Addr} {o : Obj} {xs : Array Value} {k : Nat} {Q : Option Value → Shared → Prop} (hx : s.heap.get? a = some o) (hc : o.cls = .type "tuple") (hdat : o.data = .seq xs k) (hd : o.dict = none) (hA : A.handled = none)
    (h : ∀ h' tk, (∀ b o, s.heap.get? b = some o → h'.get? b = some o) → Q none { s with heap := h', toks := tk }) : wpAny (model prog w) A (getAttr? (.ref a) "keys") Q E s := by
  obtain ⟨c, dct, dat, sl⟩ := o
  simp only at hc hdat hd
  subst hc hdat hd
  obtain ⟨hp, g, d, tk, os⟩ := s
  have hT : ∀ tk', (⟨hp, g, d, tk', os⟩ : Shared).TypeIs (.ref a) "tuple" := fun _ => ⟨_, hx, rfl⟩
  have f1 := sub_AttributeError
  have f3 := F.slot_tuple_getattribute.lookup
  have f4 := F.slot_tuple_getattribute.bind (.ref a)
  have f5 := am_tuple_getattr_none
  unfold getAttr? getAttrBy? getAttrBy
  repeat (any_goals (first | assumption | exact hT _ | ((with_reducible show wpAny _ _ (call (Value.builtin "tuple.__getattribute__") _ _) _ _ _); refine call_meets F.slot_tuple_getattribute (hT _) am_entry_tuple_getattribute (F.args_tuple_getattribute_2 _ _) (meets_getattribute_miss_tuple a xs k sl "keys" _ keys_none_tuple keys_plain) ⟨hx, hA, fun h' tk' e hx' => ?_⟩) | wp_step))
  obtain ⟨t', u', he⟩ := hx'.there
  show wpAny _ _ (getattributeRaised _ _ _ _ _ _ _) _ _ _
  unfold getattributeRaised
  repeat (any_goals (first | assumption | wp_step))
  exact h _ _ hx'.keeps
end
theorem entry_update_loop : entryFor table "dict.update.loop" = some Builtin.«dict.update.loop» := entryFor_of_tree (by kernel_rfl)
theorem plain_update_loop : plainId "dict.update.loop" = true := by decide +kernel
section
variable {prog : Program} {w : World} {K : Type} [DecidableEq K] {knd : KeyKind prog w K} {A : Around} {R : Result → Shared → Prop} {I : Addr} {fp wr : List Addr} {n : Nat} {P : Nat → Value → Prop} {St : Nat → Heap → Prop} {kvs : List (K × Value)}
theorem update_loop (W : Walks prog w A.in1 I fp wr n P St) (D : Addr) (hDf : D ∉ fp) (Pair : Addr → Value → Value → Prop) (hPr : ∀ i v, P i v → ∃ a key x k, v = .ref a ∧ kvs[i]? = some (k, x) ∧ knd.is k key = true ∧ Pair a key x)
    (hne : ∀ a key x, Pair a key x → a ≠ D ∧ a ∉ wr) (hn : kvs.length = n) (hsz : n ≤ sizeLine) (res : Value) :
    ∀ (m i : Nat) (s : Shared) (t : Tok), n - i = m → i ≤ n → St i s.heap → (∀ a key x, Pair a key x → ∃ o c, s.heap.get? a = some o ∧ o.cls = .type "tuple" ∧ o.data = .seq #[key, x] c) → s.heap.DictOf knd D (merged [] (kvs.take i)) →
      (∀ h' tk, (∀ b o, b ≠ D → b ∉ wr → s.heap.get? b = some o → h'.get? b = some o) → h'.DictOf knd D (merged [] kvs) → R (.ok (.ret res)) { s with heap := h', toks := tk }) →
      codeAny (model prog w) A (.builtin "dict.update.loop" ⟨[.ref D, .ref I, .int (i : Int) t, res], []⟩) R s := by
  have hDw : D ∉ wr := fun h => hDf (W.sub _ h)
  intro m
  induction m with
  | zero =>
    intro i s t hk hi hst hp hD hR
    have hin : i = n := by omega
    subst hin
    refine codeAny_builtin entry_update_loop ?_
    rw [Around.under_plainId plain_update_loop _]
    show wpAny _ A.in1 (pyNext (.ref I) >>= _) _ _ s
    refine wpAny_bind (W.done s _ _ hst fun h' tk hk' => ?_)
    show wpAny _ A.in1 (Builtin.Dict.addKeywords D [] >>= fun _ => ret res) _ _ _
    refine wpAny_bind (wpAny_pure (wpAny_pure (hR h' tk (fun b o _ hb e => hk' b o hb e) ?_)))
    rw [← hn, List.take_length] at hD
    obtain ⟨o, es, ep, ho, rest⟩ := hD
    exact ⟨o, es, ep, hk' D _ hDw ho, rest⟩
  | succ m ih =>
    intro i s t hk hi hst hp hD hR
    have hlt : i < n := by omega
    refine codeAny_builtin entry_update_loop ?_
    rw [Around.under_plainId plain_update_loop _]
    show wpAny _ A.in1 (pyNext (.ref I) >>= _) _ _ s
    refine wpAny_bind (W.item i s _ _ hlt hst fun v h' tk hP st' hk' => ?_)
    obtain ⟨a, key, x, k, rfl, hkv, hkey, hpair⟩ := hPr i v hP
    obtain ⟨o, c, ho, hoc, hod⟩ := hp a key x hpair
    have ho' : h'.get? a = some o := hk' a o (hne a key x hpair).2 ho
    have hD' : h'.DictOf knd D (merged [] (kvs.take i)) := by
      obtain ⟨o, es, ep, ho, rest⟩ := hD
      exact ⟨o, es, ep, hk' D _ hDw ho, rest⟩
    have hT : (({ s with heap := h', toks := tk } : Shared)).TypeIs (.ref a) "tuple" := ⟨o, ho', hoc⟩
    refine wpAny_bind (wpAny_holding ?_)
    refine wpAny_bind (wpAny_tryCatch ?_)
    unfold Builtin.Dict.pairItems
    refine wpAny_bind (wpAny_typeOf hT ?_)
    rw [if_pos (by decide)]
    refine wpAny_bind (wpAny_seqItems ho' hod ?_)
    refine wpAny_pure ?_
    show wpAny _ A.in1 (holding [key, x] (dictSet D key x)) _ _ _
    have hz : (merged [] (kvs.take i)).length ≤ sizeLine := by
      have := merged_length_le ([] : List (K × Value)) (kvs.take i)
      rw [List.length_nil, List.length_take] at this
      omega
    refine wpAny_holding (wpAny_dictSet_pairs (hsz := hz) hkey hD' fun h2 hD2 hs2 => ?_)
    have keep : ∀ b o, b ≠ D → b ∉ wr → s.heap.get? b = some o → h2.get? b = some o := fun b o h1 h3 e => (hs2.2 b h1).trans (hk' b o h3 e)
    rw [← merged_take_succ _ _ i _ hkv] at hD2
    refine wpAny_pure ⟨plainId_quiet plain_update_loop _, ?_⟩
    show codeAny _ A (.builtin "dict.update.loop" ⟨[.ref D, .ref I, .int (((i : Nat) : Int) + 1) 0, res], []⟩) R _
    rw [show ((i : Int) + 1) = ((i + 1 : Nat) : Int) from by omega]
    refine ih (i + 1) _ 0 (by omega) hlt (W.frame _ _ _ st' fun b hb o e => (hs2.2 b (fun z => hDf (z ▸ hb))).trans e) (fun a' key' x' hp' => ?_) hD2 fun h3 tk3 hk3 hD3 => ?_
    · obtain ⟨o', c', e1, e2⟩ := hp a' key' x' hp'
      exact ⟨o', c', keep a' o' (hne _ _ _ hp').1 (hne _ _ _ hp').2 e1, e2⟩
    · exact hR h3 tk3 (fun b o h1 h2' e => hk3 b o h1 h2' (keep b o h1 h2' e)) hD3
theorem dict_pairs {E : Value → Shared → Prop} {s : Shared} {l : Addr} {its : Array Value} {T : String} {Q : Value → Shared → Prop} (hh : A.handled = none) (hT : s.TypeIs (.ref l) T) (hTn : T ≠ "dict")
    (hnk : ∀ (s' : Shared) (Q' : Option Value → Shared → Prop) (E' : Value → Shared → Prop), (∀ b o, s.heap.get? b = some o → s'.heap.get? b = some o) → (∀ h' tk, (∀ b o, s'.heap.get? b = some o → h'.get? b = some o) → Q' none { s' with heap := h', toks := tk }) → wpAny (model prog w) A.in1.in1 (getAttr? (.ref l) "keys") Q' E' s')
    (hit : ∀ (s' : Shared) (Q' : Value → Shared → Prop) (E' : Value → Shared → Prop), (∀ b o, s.heap.get? b = some o → s'.heap.get? b = some o) → (∀ (I : Addr) (h' : Heap) (St : Nat → Heap → Prop), s'.heap.get? I = none → (∀ b o, s'.heap.get? b = some o → h'.get? b = some o) → Walks prog w A.in1.in1 I [I, l] [I] its.size (fun i v => its[i]? = some v) St → St 0 h' → Q' (.ref I) { s' with heap := h' }) → wpAny (model prog w) A.in1.in1 (pyIter (.ref l)) Q' E' s')
    (hl : l < s.heap.objs.size) (hps : ∀ (i : Nat) (v : Value), its[i]? = some v → ∃ a key x k o c, v = .ref a ∧ kvs[i]? = some (k, x) ∧ knd.is k key = true ∧ s.heap.get? a = some o ∧ o.cls = .type "tuple" ∧ o.data = .seq #[key, x] c) (hn : kvs.length = its.size) (hsz : kvs.length ≤ sizeLine)
    (hQ : ∀ h' tk, (∀ b o, s.heap.get? b = some o → h'.get? b = some o) → h'.DictOf knd s.heap.objs.size (merged [] kvs) → Q (.ref s.heap.objs.size) { s with heap := h', toks := tk }) :
    wpAny (model prog w) A (call (.type "dict") [.ref l]) Q E s := by
  refine callType_codes (Q₁ := fun obj s₁ => obj = .ref s.heap.objs.size ∧ s₁ = { s with heap := s.heap.push { cls := .type "dict", data := .dict #[] } }) F.kt_called_dict (F.kt_typeCall_dict_1 _) F.entry_dict_init (kt_code_dict_new _ ⟨rfl, rfl⟩) ?_
  rintro obj s₁ ⟨rfl, rfl⟩
  have hnew : (s.heap.push { cls := .type "dict", data := .dict #[] }).DictOf knd s.heap.objs.size [] := Heap.DictOf.new s.heap
  have hk0 : ∀ b o, s.heap.get? b = some o → (s.heap.push { cls := .type "dict", data := .dict #[] }).get? b = some o := fun b o e => Heap.get?_push_of_some _ e
  have hT1 : (({ s with heap := s.heap.push { cls := .type "dict", data := .dict #[] } } : Shared)).TypeIs (.ref l) T := by
    obtain ⟨o, ho, hc⟩ := hT
    exact ⟨o, hk0 _ _ ho, hc⟩
  refine ⟨hnew.typeIs, F.args_dict_init_2 _ _, ?_⟩
  unfold Builtin.«dict.__init__»
  refine wpAny_bind ?_
  unfold Builtin.Dict.selfAndRest
  refine wpAny_bind (wpAny_notOrdered_dict hnew.typeIs ?_)
  show wpAny _ _ (pure (s.heap.objs.size, [Value.ref l])) _ _ _
  refine wpAny_pure ?_
  show wpAny _ _ (Builtin.Dict.updateFrom "dict.__init__" s.heap.objs.size (.ref l) [] .none) _ _ _
  unfold Builtin.Dict.updateFrom
  refine wpAny_bind (wpAny_typeOf hT1 ?_)
  have hb : (Value.type T != Value.type "dict") = true := by simpa [bne_iff_ne] using hTn
  rw [if_pos hb]
  refine wpAny_bind (hnk _ _ _ hk0 fun h1 tk1 hk1 => ?_)
  simp only [Option.isNone_none, if_true]
  refine wpAny_bind (wpAny_rule ?_)
  refine wpAny_bind (hit { s with heap := h1, toks := tk1 } _ _ (fun b o e => hk1 b o (hk0 b o e)) fun I h2 St hI hk2 W hSt => ?_)
  have hD2 : h2.DictOf knd s.heap.objs.size [] := by
    obtain ⟨o, es, ep, ho, rest⟩ := hnew
    exact ⟨o, es, ep, hk2 _ _ (hk1 _ _ ho), rest⟩
  have hkeep : ∀ b o, s.heap.get? b = some o → h2.get? b = some o := fun b o e => hk2 b o (hk1 b o (hk0 b o e))
  have hDI : s.heap.objs.size ≠ I := fun z => by
    obtain ⟨o, es, ep, ho, _⟩ := hnew
    have : h1.get? I = some o := by rw [← z]; exact hk1 _ _ ho
    rw [show h1.get? I = none from hI] at this; cases this
  have hII : ∀ b o, s.heap.get? b = some o → b ≠ I := fun b o e z => by
    have : h1.get? I = some o := by rw [← z]; exact hk1 _ _ (hk0 _ _ e)
    rw [show h1.get? I = none from hI] at this; cases this
  refine wpAny_pure ⟨plainId_quiet plain_update_loop _, ?_⟩
  refine update_loop (A := A.in1) (knd := knd) (kvs := kvs) W s.heap.objs.size (by simp [hDI, Nat.ne_of_gt hl]) (fun a key x => ∃ o c, s.heap.get? a = some o ∧ o.cls = .type "tuple" ∧ o.data = .seq #[key, x] c) (fun i v hv => ?_) (fun a key x hp => ?_) hn (by rw [← hn]; exact hsz) .none its.size 0 _ 0 (Nat.sub_zero _) (Nat.zero_le _) hSt (fun a key x hp => ?_) hD2 fun h3 tk3 hk3 hD3 => ?_
  · obtain ⟨a, key, x, k, o, c, h4, h5, h6, h7⟩ := hps i v hv
    exact ⟨a, key, x, k, h4, h5, h6, o, c, h7⟩
  · obtain ⟨o, c, ho, _⟩ := hp
    exact ⟨Nat.ne_of_lt (Heap.lt_size ho), by simpa using hII a o ho⟩
  · obtain ⟨o, c, ho, h8⟩ := hp
    exact ⟨o, c, hkeep a o ho, h8⟩
  · exact ⟨rfl, hQ h3 tk3 (fun b o e => hk3 b o (Nat.ne_of_lt (Heap.lt_size e)) (by simpa using hII b o e) (hkeep b o e)) hD3⟩
end
end ZT
set_option Elab.async false
set_option linter.all false
set_option maxRecDepth 100000
set_option maxHeartbeats 1000000
namespace ZT
open PySem PySem.W PyProof.Rows
structure LtOk (n : Nat) (lt : Nat → Nat → Bool) : Prop where
  tot : ∀ i j, i < n → j < n → i ≠ j → lt i j = false → lt j i = true
  tr : ∀ i j k, lt i j = true → lt j k = true → lt i k = true
def PermN (n : Nat) (p : Array Nat) : Prop := p.Perm (List.toArray (List.range n))
theorem PermN.size {n : Nat} {p : Array Nat} (h : PermN n p) : p.size = n := by
  have := h.size_eq
  simpa using this
theorem PermN.list {n : Nat} {p : Array Nat} (h : PermN n p) : p.toList.Perm (List.range n) := by
  have := Array.perm_iff_toList_perm.mp h
  simpa using this
theorem getD_at {p : Array Nat} {k : Nat} (h : k < p.size) : p.getD k 0 = p[k] := by simp [Array.getD, h]
theorem getD_opt {p : Array Nat} {k : Nat} : p.getD k 0 = (p[k]?).getD 0 := by
  by_cases h : k < p.size
  · simp [Array.getD, h]
  · simp [Array.getD, h]
theorem PermN.lt {n : Nat} {p : Array Nat} (h : PermN n p) {k : Nat} (hk : k < n) : p.getD k 0 < n := by
  have hk' : k < p.size := by rw [h.size]; exact hk
  rw [getD_at hk']
  have : p[k] ∈ p.toList := by simp
  exact List.mem_range.mp (h.list.mem_iff.mp this)
theorem PermN.inj {n : Nat} {p : Array Nat} (h : PermN n p) {i j : Nat} (hi : i < n) (hj : j < n) (e : i ≠ j) : p.getD i 0 ≠ p.getD j 0 := by
  have hi' : i < p.size := by rw [h.size]; exact hi
  have hj' : j < p.size := by rw [h.size]; exact hj
  have nd : p.toList.Nodup := h.list.nodup_iff.mpr List.nodup_range
  rw [getD_at hi', getD_at hj']
  intro z
  apply e
  have : p.toList[i]'(by simpa using hi') = p.toList[j]'(by simpa using hj') := by simpa using z
  exact (List.getElem_inj nd).mp this
def srt (lt : Nat → Nat → Bool) (p : Array Nat) (k : Nat) : Prop := ∀ i j, i < j → j < k → lt (p.getD i 0) (p.getD j 0) = true
def dsr (lt : Nat → Nat → Bool) (p : Array Nat) (k : Nat) : Prop := ∀ i j, i < j → j < k → lt (p.getD j 0) (p.getD i 0) = true
section
variable {n : Nat} {lt : Nat → Nat → Bool} {s : Shared} {cmp : Nat → Nat → (Bool → Shared → Prop) → Shared → Prop}
theorem srt.succ (L : LtOk n lt) {p : Array Nat} {m : Nat} (h : srt lt p m) (h1 : 1 ≤ m) (e : lt (p.getD (m - 1) 0) (p.getD m 0) = true) : srt lt p (m + 1) := fun i j hij hj => by
  by_cases hm : j < m
  · exact h i j hij hm
  · have : j = m := by omega
    subst this
    by_cases hi : i = j - 1
    · rw [hi]; exact e
    · exact L.tr _ _ _ (h i (j - 1) (by omega) (by omega)) e
theorem dsr.succ (L : LtOk n lt) {p : Array Nat} {m : Nat} (h : dsr lt p m) (h1 : 1 ≤ m) (e : lt (p.getD m 0) (p.getD (m - 1) 0) = true) : dsr lt p (m + 1) := fun i j hij hj => by
  by_cases hm : j < m
  · exact h i j hij hm
  · have : j = m := by omega
    subst this
    by_cases hi : i = j - 1
    · rw [hi]; exact e
    · exact L.tr _ _ _ e (h i (j - 1) (by omega) (by omega))
theorem asc_wp (L : LtOk n lt) (hc : ∀ i j (C : Bool → Shared → Prop), i < n → j < n → i ≠ j → C (lt i j) s → cmp i j C s) {p : Array Nat} (hp : PermN n p) {Q : Nat → Shared → Prop} :
    ∀ (f m : Nat), 1 ≤ m → m + f ≤ n → srt lt p m → (∀ m', m ≤ m' → m' ≤ m + f → srt lt p m' → (m' = m + f ∨ lt (p.getD m' 0) (p.getD (m' - 1) 0) = true) → Q m' s) → (kas_asc p f m).kasWp cmp Q s
  | 0, m, _, _, hs, h => h m (Nat.le_refl _) (Nat.le_refl _) hs (.inl rfl)
  | f + 1, m, h1, hn, hs, h => by
    refine hc _ _ _ (hp.lt (by omega)) (hp.lt (by omega)) (hp.inj (by omega) (by omega) (by omega)) ?_
    cases e : lt (p.getD m 0) (p.getD (m - 1) 0) with
    | true => exact h m (Nat.le_refl _) (by omega) hs (.inr e)
    | false =>
      refine asc_wp L hc hp f (m + 1) (by omega) (by omega) (hs.succ L h1 (L.tot _ _ (hp.lt (by omega)) (hp.lt (by omega)) (hp.inj (by omega) (by omega) (by omega)) e)) fun m' a b c d => h m' (by omega) (by omega) c ?_
      rcases d with d | d
      · exact .inl (by omega)
      · exact .inr d
theorem desc_wp (L : LtOk n lt) (hc : ∀ i j (C : Bool → Shared → Prop), i < n → j < n → i ≠ j → C (lt i j) s → cmp i j C s) {p : Array Nat} (hp : PermN n p) {Q : Array Nat × Nat × Nat → Shared → Prop} :
    ∀ (f m : Nat), 1 ≤ m → m + f ≤ n → dsr lt p m → (∀ m', m ≤ m' → m' ≤ m + f → dsr lt p m' → Q (p, m', 0) s) → (kas_desc f p m 0).kasWp cmp Q s
  | 0, m, _, _, hs, h => h m (Nat.le_refl _) (Nat.le_refl _) hs
  | f + 1, m, h1, hn, hs, h => by
    refine hc _ _ _ (hp.lt (by omega)) (hp.lt (by omega)) (hp.inj (by omega) (by omega) (by omega)) ?_
    cases e : lt (p.getD m 0) (p.getD (m - 1) 0) with
    | true =>
      simp only [if_true]
      rw [if_neg (by omega)]
      exact desc_wp L hc hp f (m + 1) (by omega) (by omega) (hs.succ L h1 e) fun m' a b c => h m' (by omega) (by omega) c
    | false =>
      refine hc _ _ _ (hp.lt (by omega)) (hp.lt (by omega)) (hp.inj (by omega) (by omega) (by omega)) ?_
      rw [L.tot _ _ (hp.lt (by omega)) (hp.lt (by omega)) (hp.inj (by omega) (by omega) (by omega)) e]
      exact h m (Nat.le_refl _) (by omega) hs
theorem rev_get {p : Array Nat} {m k : Nat} (hm : m ≤ p.size) : (kas_rev p 0 m).getD k 0 = if k < m then p.getD (m - 1 - k) 0 else p.getD k 0 := by
  rw [getD_opt]
  unfold kas_rev
  rw [getElem?_mirror_all hm]
  by_cases h : k < m
  · rw [if_pos ⟨Nat.zero_le _, h⟩, if_pos h, getD_opt, Nat.zero_add]
  · rw [if_neg (fun z => h z.2), if_neg h, getD_opt]
theorem PermN.rev {p : Array Nat} {i j : Nat} (h : PermN n p) : PermN n (kas_rev p i j) := (mirror_perm _ _ _ _).trans h
theorem dsr.rev {p : Array Nat} {m : Nat} (hm : m ≤ p.size) (h : dsr lt p m) : srt lt (kas_rev p 0 m) m := fun i j hij hj => by
  rw [rev_get hm, rev_get hm, if_pos (by omega), if_pos hj]
  exact h _ _ (by omega) (by omega)
theorem count_wp (L : LtOk n lt) (hc : ∀ i j (C : Bool → Shared → Prop), i < n → j < n → i ≠ j → C (lt i j) s → cmp i j C s) {p : Array Nat} (hp : PermN n p) (hn : 2 ≤ n) {Q : Nat × Array Nat → Shared → Prop}
    (h : ∀ m p', 1 ≤ m → m ≤ n → PermN n p' → srt lt p' m → Q (m, p') s) : (kas_count n p).kasWp cmp Q s := by
  unfold kas_count
  rw [KasT.kasWp_bind]
  refine asc_wp L hc hp (n - 1) 1 (Nat.le_refl _) (by omega) (fun i j h1 h2 => by omega) fun m h1 h2 hs hd => ?_
  by_cases e : m = n
  · subst e
    rw [if_pos (by simp)]
    exact h m p h1 (Nat.le_refl _) hp hs
  · rw [if_neg (by simpa using e)]
    have hlt : lt (p.getD m 0) (p.getD (m - 1) 0) = true := by
      rcases hd with hd | hd
      · omega
      · exact hd
    by_cases e1 : m > 1
    · rw [if_pos e1]
      refine hc _ _ _ (hp.lt (by omega)) (hp.lt (by omega)) (hp.inj (by omega) (by omega) (by omega)) ?_
      rw [hs 0 (m - 1) (by omega) (by omega)]
      exact h m p h1 (by omega) hp hs
    · rw [if_neg e1]
      have em : m = 1 := by omega
      subst em
      unfold kas_descPart
      rw [KasT.kasWp_bind]
      refine desc_wp L hc hp _ 2 (by omega) (by omega) (fun i j h3 h4 => by
        have : i = 0 := by omega
        have : j = 1 := by omega
        subst i j
        exact hlt) fun m' a b c => ?_
      dsimp only
      rw [if_neg (by omega)]
      unfold kas_tail3
      rw [KasT.kasWp_bind]
      have hm' : m' ≤ p.size := by rw [hp.size]; omega
      exact asc_wp L hc hp.rev _ m' (by omega) (by omega) (c.rev hm') fun m2 h3 h4 h5 _ => h m2 _ (by omega) (by omega) hp.rev h5
theorem place_wp (L : LtOk n lt) (hc : ∀ i j (C : Bool → Shared → Prop), i < n → j < n → i ≠ j → C (lt i j) s → cmp i j C s) {p : Array Nat} (hp : PermN n p) {k : Nat} (hk : k < n) (hs : srt lt p k) {Q : Nat → Shared → Prop}
    (h : ∀ l', l' ≤ k → (∀ i, i < l' → lt (p.getD i 0) (p.getD k 0) = true) → (∀ i, l' ≤ i → i < k → lt (p.getD k 0) (p.getD i 0) = true) → Q l' s) :
    ∀ (f l r : Nat), l ≤ r → r ≤ k → r - l ≤ f → (∀ i, i < l → lt (p.getD i 0) (p.getD k 0) = true) → (∀ i, r ≤ i → i < k → lt (p.getD k 0) (p.getD i 0) = true) → (kas_place p k f l r).kasWp cmp Q s
  | 0, l, r, h1, h2, h3, a, b => h l (by omega) a fun i h4 h5 => b i (by omega) h5
  | f + 1, l, r, h1, h2, h3, a, b => by
    unfold kas_place
    by_cases e : l ≥ r
    · rw [if_pos e]
      exact h l (by omega) a fun i h4 h5 => b i (by omega) h5
    · rw [if_neg e]
      refine hc _ _ _ (hp.lt hk) (hp.lt (by omega)) (hp.inj hk (by omega) (by omega)) ?_
      cases q : lt (p.getD k 0) (p.getD ((l + r) / 2) 0) with
      | true =>
        refine place_wp L hc hp hk hs h f l ((l + r) / 2) (by omega) (by omega) (by omega) a fun i h4 h5 => ?_
        by_cases z : i = (l + r) / 2
        · rw [z]; exact q
        · exact L.tr _ _ _ q (hs _ _ (by omega) h5)
      | false =>
        have q' := L.tot _ _ (hp.lt hk) (hp.lt (by omega)) (hp.inj hk (by omega) (by omega)) q
        refine place_wp L hc hp hk hs h f ((l + r) / 2 + 1) r (by omega) (by omega) (by omega) (fun i h4 => ?_) b
        by_cases z : i = (l + r) / 2
        · rw [z]; exact q'
        · exact L.tr _ _ _ (hs _ _ (by omega) (by omega)) q'
theorem bub_get {p : Array Nat} {k l i : Nat} (hk : k < p.size) (hl : l ≤ k) : (bubble p k (k - l)).getD i 0 = if i = l then p.getD k 0 else if l < i ∧ i ≤ k then p.getD (i - 1) 0 else p.getD i 0 := by
  rw [getD_opt, getElem?_bubble hk _ (by omega), show k - (k - l) = l by omega]
  by_cases h1 : i = l
  · rw [if_pos h1, if_pos h1, getD_opt]
  · rw [if_neg h1, if_neg h1]
    by_cases h2 : l < i ∧ i ≤ k
    · rw [if_pos h2, if_pos h2, getD_opt]
    · rw [if_neg h2, if_neg h2, getD_opt]
theorem bin_wp (L : LtOk n lt) (hc : ∀ i j (C : Bool → Shared → Prop), i < n → j < n → i ≠ j → C (lt i j) s → cmp i j C s) {Q : Array Nat → Shared → Prop} (h : ∀ p', PermN n p' → srt lt p' n → Q p' s) :
    ∀ (f : Nat) (p : Array Nat) (k : Nat), PermN n p → k + f = n → srt lt p k → (kas_bin f p k).kasWp cmp Q s
  | 0, p, k, hp, e, hs => h p hp (by rw [← e]; exact hs)
  | f + 1, p, k, hp, e, hs => by
    unfold kas_bin
    rw [KasT.kasWp_bind]
    refine place_wp L hc hp (by omega) hs (fun l hl a b => ?_) k 0 k (Nat.zero_le _) (Nat.le_refl _) (by omega) (fun i z => by omega) fun i z z' => by omega
    have hk : k < p.size := by rw [hp.size]; omega
    refine bin_wp L hc h f _ (k + 1) ((bubble_perm _ _ _).trans hp) (by omega) fun i j hij hj => ?_
    rw [bub_get hk hl, bub_get hk hl]
    by_cases i1 : i = l
    · rw [if_pos i1, if_neg (by omega), if_pos (by omega)]
      exact b _ (by omega) (by omega)
    · rw [if_neg i1]
      by_cases j1 : j = l
      · rw [if_pos j1, if_neg (by omega)]
        exact a _ (by omega)
      · rw [if_neg j1]
        by_cases i2 : l < i ∧ i ≤ k
        · rw [if_pos i2, if_pos (by omega)]
          exact hs _ _ (by omega) (by omega)
        · rw [if_neg i2]
          by_cases j2 : l < j ∧ j ≤ k
          · rw [if_pos j2]
            exact hs _ _ (by omega) (by omega)
          · rw [if_neg j2]
            exact hs _ _ (by omega) (by omega)
theorem sort_wp (L : LtOk n lt) (hc : ∀ i j (C : Bool → Shared → Prop), i < n → j < n → i ≠ j → C (lt i j) s → cmp i j C s) (hn : 2 ≤ n) {Q : Array Nat → Shared → Prop} (h : ∀ p', PermN n p' → srt lt p' n → Q p' s) :
    (kas_sort n).kasWp cmp Q s := by
  unfold kas_sort
  rw [KasT.kasWp_bind]
  refine count_wp L hc (.refl _) hn fun m p' h1 h2 h3 h4 => ?_
  dsimp only
  by_cases e : m < n
  · rw [if_pos e]
    refine bin_wp L hc h _ _ _ h3 (by omega) ?_
    rw [show max m 1 = m by omega]; exact h4
  · rw [if_neg e]
    have : m = n := by omega
    subst this
    exact h _ h3 h4
end
end ZT
set_option Elab.async false
set_option linter.all false
set_option maxRecDepth 100000
set_option maxHeartbeats 1000000
namespace ZT
open PySem PySem.W PyProof.Rows
def ltN (names : List Str) (i j : Nat) : Bool := decide ((names.getD i ⟨#[]⟩).cps.toList < (names.getD j ⟨#[]⟩).cps.toList)
theorem ltN_ok {names : List Str} (hn : names.Nodup) : LtOk names.length (ltN names) where
  tot i j hi hj e h := by
    unfold ltN at h ⊢
    simp only [decide_eq_false_iff_not, decide_eq_true_eq] at h ⊢
    have h1 := List.not_lt.mp h
    rcases List.le_iff_lt_or_eq.mp h1 with h2 | h2
    · exact h2
    · exfalso
      apply e
      have e1 : names.getD i ⟨#[]⟩ = names[i] := by simp [hi]
      have e2 : names.getD j ⟨#[]⟩ = names[j] := by simp [hj]
      rw [e1, e2] at h2
      have h3 : names[j] = names[i] := by
        have : names[j].cps = names[i].cps := Array.toList_inj.mp h2
        cases q1 : names[j]; cases q2 : names[i]; rw [q1, q2] at this; congr
      exact ((List.getElem_inj hn).mp h3).symm
  tr i j k h1 h2 := by
    unfold ltN at *
    simp only [decide_eq_true_eq] at *
    exact List.lt_trans h1 h2
section
variable {prog : Program} {w : World} {A : Around} {E : Value → Shared → Prop} {s : Shared}
def Prs (h : Heap) (as : List Addr) (names : List Str) : Prop := as.length = names.length ∧ ∀ (i : Nat) (x : Addr), as[i]? = some x → ∃ t y o c, h.get? x = some o ∧ o.cls = .type "tuple" ∧ o.data = .seq #[.str (names.getD i ⟨#[]⟩) t, y] c
theorem Prs.keeps {h h' : Heap} {as : List Addr} {names : List Str} (p : Prs h as names) (k : ∀ b o, b ∈ as → h.get? b = some o → h'.get? b = some o) : Prs h' as names := ⟨p.1, fun i x hx => by
  obtain ⟨t, y, o, c, e, r⟩ := p.2 i x hx
  exact ⟨t, y, o, c, k x o (List.mem_of_getElem? hx) e, r⟩⟩
theorem firsts_of {h : Heap} : ∀ (as : List Addr), (∀ x ∈ as, ∃ z t y o c, h.get? x = some o ∧ o.cls = .type "tuple" ∧ o.data = .seq #[.str z t, y] c) → ∃ fs : List Value, KatTups h (as.map Value.ref) fs ∧ fs.length = as.length ∧ ∀ f ∈ fs, ∃ z t, f = Value.str z t
  | [], _ => ⟨[], trivial, rfl, fun _ h => nomatch h⟩
  | a :: as, h => by
    obtain ⟨fs, h1, h2, h3⟩ := firsts_of as fun x hx => h x (List.mem_cons_of_mem _ hx)
    obtain ⟨z, t, y, o, c, e1, e2, e3⟩ := h a List.mem_cons_self
    refine ⟨.str z t :: fs, ⟨⟨a, o, _, c, rfl, e1, e2, e3, rfl⟩, h1⟩, by simp [h2], fun f hf => ?_⟩
    rcases List.mem_cons.mp hf with rfl | hf
    · exact ⟨z, t, rfl⟩
    · exact h3 f hf
theorem kind_prs {as : List Addr} {names : List Str} {Q : SortKind → Shared → Prop} (p : Prs s.heap as names) (h2 : 2 ≤ names.length) (h : Q (tuples' true) s) : wpAny (model prog w) A (keyKind' (as.map Value.ref).toArray) Q E s := by
  obtain ⟨fs, h1, hl, h3⟩ := firsts_of as fun x hx => by
    obtain ⟨i, hi⟩ := List.getElem?_of_mem hx
    obtain ⟨t, y, o, c, r⟩ := p.2 i x hi
    exact ⟨_, t, y, o, c, r⟩
  have := kat_kind (M := model prog w) (A := A) (E := E) (s := s) (T := .type "str") (Q := Q) h1 (by rw [hl, p.1]; omega) (fun v hv => by
    obtain ⟨z, t, rfl⟩ := h3 v hv
    exact Looks.of_pure rfl) (by decide) h
  exact this
theorem lt_prs {as : List Addr} {names : List Str} (hn : names.Nodup) (p : Prs s.heap as names) (i j : Nat) (C : Bool → Shared → Prop) (hi : i < names.length) (hj : j < names.length) (hne : i ≠ j) (h : C (ltN names i j) s) :
    kas_ask prog w A (tuples' true) (as.map Value.ref) i j C s := by
  have hi' : i < as.length := by rw [p.1]; exact hi
  have hj' : j < as.length := by rw [p.1]; exact hj
  obtain ⟨t, y, o, c, e1, e2, e3⟩ := p.2 i as[i] (List.getElem?_eq_getElem hi')
  obtain ⟨t', y', o', c', f1, f2, f3⟩ := p.2 j as[j] (List.getElem?_eq_getElem hj')
  unfold kas_ask
  rw [show (as.map Value.ref).getD i Value.none = .ref as[i] by simp [hi'], show (as.map Value.ref).getD j Value.none = .ref as[j] by simp [hj']]
  refine kat_lt e1 e3 f1 f3 ?_
  have hd : (names.getD i ⟨#[]⟩) ≠ (names.getD j ⟨#[]⟩) := by
    rw [show names.getD i ⟨#[]⟩ = names[i] by simp [hi], show names.getD j ⟨#[]⟩ = names[j] by simp [hj]]
    exact fun z => hne ((List.getElem_inj hn).mp z)
  refine kat_cons (wpAny_eqBool_str ?_)
  rw [decide_eq_false hd]
  exact kat_no (oneLt_str h)
theorem range_map (vs : List Value) : (List.range vs.length).map (fun i => vs.getD i Value.none) = vs := by
  apply List.ext_getElem (by simp)
  intro i h1 h2
  simp [h2]
theorem sort_prs {a : Addr} {as : List Addr} {names : List Str} {n : Nat} {P : PySem.Fin → Shared → Prop} (ho : s.heap.get? a = some (seqObj "list" (as.map Value.ref).toArray n)) (hp : Prs s.heap as names) (hn : names.Nodup) (h64 : names.length < 64) (hax : a ∉ as)
    (h : ∀ p : Array Nat, PermN names.length p → srt (ltN names) p names.length → P (.done (.ret .none)) { s with heap := sortedHeap s.heap a (as.map Value.ref) (List.toArray (p.toList.map fun i => (as.map Value.ref).getD i Value.none)) }) :
    wpAny (model prog w) A (Builtin.«list.sort» ⟨[.ref a], []⟩) P E s := by
  have hlv : (as.map Value.ref).length = names.length := by rw [List.length_map, hp.1]
  rw [list_sort_plain]
  have ha : a < s.heap.objs.size := Heap.lt_size ho
  refine wpAny_bind (listItems_at ho rfl ?_)
  refine wpAny_bind (listUpdate_at ho rfl ?_ (by rw [List.size_toArray, hlv, sizeLine_eq]; omega) (Nat.zero_le _))
  obtain ⟨e1, ho1⟩ : ∃ e1, (s.heap.update a (Obj.mapSeq fun _ => #[])).get? a = some (seqObj "list" #[] e1) := ⟨_, get?_update_seq ho (fun _ => #[])⟩
  refine wpAny_bind (seqEpoch_at ho1 rfl ?_)
  refine wpAny_bind (wpAny_newTuple ?_ (by show (as.map Value.ref).length ≤ _; rw [hlv, sizeLine_eq]; omega))
  refine wpAny_bind (wpAny_newList ?_ (Nat.zero_le _))
  refine wpAny_holding ?_
  have ho6 : (((s.heap.update a (Obj.mapSeq fun _ => #[])).push (seqObj "tuple" (as.map Value.ref).toArray 0)).push (seqObj "list" #[] 0)).get? a = some (seqObj "list" #[] e1) := by
    rw [Heap.get?_push_ne _ _ _ (by rw [size_push', Heap.size_update]; exact Nat.ne_of_lt (Nat.lt_succ_of_lt ha)), Heap.get?_push_ne _ _ _ (by rw [Heap.size_update]; exact Nat.ne_of_lt ha)]
    exact ho1
  have hp6 : Prs (((s.heap.update a (Obj.mapSeq fun _ => #[])).push (seqObj "tuple" (as.map Value.ref).toArray 0)).push (seqObj "list" #[] 0)) as names := hp.keeps fun b o hb e => by
    have hba : b ≠ a := fun z => hax (z ▸ hb)
    exact Heap.get?_push_of_some _ (Heap.get?_push_of_some _ ((Heap.get?_update_other _ _ (Ne.symm hba)).trans e))
  show wpAny (model prog w) A _ P E { s with heap := ((s.heap.update a (Obj.mapSeq fun _ => #[])).push (seqObj "tuple" (as.map Value.ref).toArray 0)).push (seqObj "list" #[] 0) }
  dsimp only
  by_cases h2 : (as.map Value.ref).toArray.size < 2
  · rw [if_pos h2, if_pos h2]
    refine wpAny_bind (wpAny_pure ?_)
    rw [StateT.run_pure]
    refine wpAny_bind (wpAny_pure ?_)
    dsimp only
    refine wpAny_bind (seqEpoch_at ho6 rfl ?_)
    have hq : (arrOf (SortSt.mk' general' ((as.map Value.ref).toArray.zip (as.map Value.ref).toArray) #[] 7 none)).map (·.2) = List.toArray ((List.toArray (List.range names.length)).toList.map fun i => (as.map Value.ref).getD i Value.none) := by
      rw [← hlv]
      show ((as.map Value.ref).toArray.zip (as.map Value.ref).toArray).map (·.2) = List.toArray ((List.range (as.map Value.ref).length).map fun i => (as.map Value.ref).getD i Value.none)
      rw [range_map]
      apply Array.toList_inj.mp
      simp [List.map_snd_zip]
    rw [hq]
    refine wpAny_bind (listUpdate_at ho6 rfl ?_ (hsz2 := by rw [List.size_toArray, List.length_map]; simp only [List.length_range]; rw [sizeLine_eq]; omega))
    simp only [bne_self_eq_false, Bool.false_eq_true, if_false]
    refine wpAny_pure (h _ (.refl _) fun i j hij hj => ?_)
    rw [List.size_toArray, hlv] at h2
    omega
  · rw [if_neg h2, if_neg h2]
    rw [List.size_toArray, hlv] at h2
    refine wpAny_bind (kind_prs hp6 (by omega) ?_)
    refine wpAny_bind (wpAny_mono (kat_run (κ := tuples' true) (ks := as.map Value.ref) (vs := as.map Value.ref) (Q := fun st' s' => s' = { s with heap := ((s.heap.update a (Obj.mapSeq fun _ => #[])).push (seqObj "tuple" (as.map Value.ref).toArray 0)).push (seqObj "list" #[] 0) } ∧ ∃ p : Array Nat, PermN names.length p ∧ srt (ltN names) p names.length ∧ arrOf st' = p.map (kas_item ((as.map Value.ref).toArray.zip (as.map Value.ref).toArray)) ∧ failedOf st' = none)
      (G := fun p s' => s' = { s with heap := ((s.heap.update a (Obj.mapSeq fun _ => #[])).push (seqObj "tuple" (as.map Value.ref).toArray 0)).push (seqObj "list" #[] 0) } ∧ PermN names.length p ∧ srt (ltN names) p names.length)
      rfl (by rw [hlv]; omega) (by rw [hlv]; exact h64) (fun p st' s' _ b c g => ⟨g.1, p, g.2.1, g.2.2, b, c⟩) ?_) ?_ fun _ _ e => e)
    · rw [hlv]
      exact sort_wp (ltN_ok hn) (fun i j C hi hj hne hC => lt_prs hn hp6 i j C hi hj hne hC) (by omega) fun p' a1 a2 => ⟨rfl, a1, a2⟩
    · rintro ⟨⟨⟩, st'⟩ s' ⟨rfl, p, hP, hS, har, hf⟩
      dsimp only
      rw [kat_snds rfl har]
      refine wpAny_bind (seqEpoch_at ho6 rfl ?_)
      refine wpAny_bind (listUpdate_at ho6 rfl ?_ (hsz2 := by rw [List.size_toArray, List.length_map, Array.length_toList, hP.size, sizeLine_eq]; omega))
      rw [hf]
      simp only [bne_self_eq_false, Bool.false_eq_true, if_false]
      exact wpAny_pure (h p hP hS)
open L2 in
theorem sorted_view {r d : Addr} {kvs : List (Key × Value)} {ep : Nat} {names : List Str} {Q : Value → Shared → Prop} (hh : A.handled = none) (hv : s.heap.IsItemsView r d) (hm : s.heap.DictAt (mixKind prog w) d kvs ep) (hk : kvs.map (·.1) = names.map Sum.inr) (h64 : kvs.length < 64)
    (h : ∀ (h' : Heap) (tk : Nat) (D : Addr) (as : List Addr) (p : Array Nat) (c : Nat), (∀ b o, s.heap.get? b = some o → h'.get? b = some o) → s.heap.get? D = none → as.length = kvs.length → KdxG (mixKind prog w) kvs s.heap.objs.size h' as → D ∉ as → PermN kvs.length p → srt (ltN names) p kvs.length →
      h'.get? D = some (seqObj "list" (List.toArray (p.toList.map fun i => (as.map Value.ref).getD i Value.none)) c) → Q (.ref D) { s with heap := h', toks := tk }) :
    wpAny (model prog w) A (call (.builtin "sorted") [.ref r]) Q E s := by
  have hln : kvs.length = names.length := by simpa using congrArg List.length hk
  have hnd : names.Nodup := by
    have := hm.nodup
    rw [hk] at this
    exact (List.Pairwise.of_map (f := Sum.inr) (fun a b h z => h (by rw [z])) this)
  refine Calls.call_function_entry kind_sorted plain_sorted entry_sorted (args_sorted1 _) ?_
  unfold Builtin.«sorted»
  refine wpAny_bind (m := checkCount "sorted" 1 1 _) (wpAny_pure ?_)
  refine wpAny_bind (kdx_collect (knd := mixKind prog w) (kvs := kvs) (ep := ep) hh hv hm (by rw [sizeLine_eq]; omega) fun h1 tk as hk1 hl hG => ?_)
  refine wpAny_bind (wpAny_newList ?_ (by rw [List.length_map, hl, sizeLine_eq]; omega))
  have hoL : (h1.push (seqObj "list" (as.map Value.ref).toArray 0)).get? h1.objs.size = some (seqObj "list" (as.map Value.ref).toArray 0) := Heap.get?_push_size _ rfl
  have hlow : ∀ b ∈ as, b < h1.objs.size := fun b hb => hG.there hb
  have hDas : h1.objs.size ∉ as := fun z => Nat.lt_irrefl _ (hlow _ z)
  have hPrs : Prs (h1.push (seqObj "list" (as.map Value.ref).toArray 0)) as names := ⟨by rw [hl, hln], fun i x hx => by
    obtain ⟨key, k, y, e1, e2, e3⟩ := hG.pairs i x hx
    have hi : i < names.length := by rw [← hln]; exact (List.getElem?_eq_some_iff.mp e1).1
    have ek : k = Sum.inr (names.getD i ⟨#[]⟩) := by
      have := congrArg (fun l => l[i]?) hk
      simp only [List.getElem?_map, e1, Option.map_some] at this
      rw [List.getElem?_eq_getElem hi] at this
      have e4 : k = Sum.inr names[i] := by simpa using this
      rw [e4]; simp [hi]
    subst ek
    rcases keyIs_shape (k := Sum.inr (names.getD i ⟨#[]⟩)) (v := key) e2 with ⟨j, t, e, _⟩ | ⟨z, t, e, rfl⟩
    · cases e
    · cases e
      exact ⟨t, y, _, _, Heap.get?_push_of_some _ e3, rfl, rfl⟩⟩
  have hDn : s.heap.get? h1.objs.size = none := by
    cases q : s.heap.get? h1.objs.size with
    | none => rfl
    | some o => exact absurd (Heap.lt_size (hk1 _ _ q)) (Nat.lt_irrefl _)
  refine wpAny_bind (wpAny_holding (wpAny_call_entry slot_list_sort ⟨_, hoL, rfl⟩ entry_list_sort (sort_prs hoL hPrs hnd (by rw [← hln]; exact h64) hDas fun p hp hs => ⟨_, rfl, ?_⟩) (args_list_sort _)))
  refine wpAny_pure ⟨_, rfl, ?_⟩
  have hst : ∀ b o, b ≠ h1.objs.size → h1.get? b = some o → (sortedHeap (h1.push (seqObj "list" (as.map Value.ref).toArray 0)) h1.objs.size (as.map Value.ref) (List.toArray (p.toList.map fun i => (as.map Value.ref).getD i Value.none))).get? b = some o := fun b o hb e => by
    unfold sortedHeap
    refine (Heap.get?_update_other _ _ (Ne.symm hb)).trans (Heap.get?_push_of_some _ (Heap.get?_push_of_some _ ((Heap.get?_update_other _ _ (Ne.symm hb)).trans (Heap.get?_push_of_some _ e))))
  obtain ⟨e1, ho1⟩ : ∃ e1, ((h1.push (seqObj "list" (as.map Value.ref).toArray 0)).update h1.objs.size (Obj.mapSeq fun _ => #[])).get? h1.objs.size = some (seqObj "list" #[] e1) := ⟨_, get?_update_seq hoL (fun _ => #[])⟩
  have ho6 : ((((h1.push (seqObj "list" (as.map Value.ref).toArray 0)).update h1.objs.size (Obj.mapSeq fun _ => #[])).push (seqObj "tuple" (as.map Value.ref).toArray 0)).push (seqObj "list" #[] 0)).get? h1.objs.size = some (seqObj "list" #[] e1) := Heap.get?_push_of_some _ (Heap.get?_push_of_some _ ho1)
  rw [← hln] at hp hs
  exact h _ tk h1.objs.size as p _ (fun b o e => hst b o (Nat.ne_of_lt (Heap.lt_size (hk1 b o e))) (hk1 b o e)) hDn hl ⟨hG.rise, hG.above, fun j a hj => by
    obtain ⟨key, k, x, e1, e2, e3⟩ := hG.pairs j a hj
    exact ⟨key, k, x, e1, e2, hst a _ (Nat.ne_of_lt (Heap.lt_size e3)) e3⟩⟩ hDas hp hs (get?_update_seq ho6 _)
end
end ZT
set_option Elab.async false
set_option linter.all false
set_option maxRecDepth 100000
set_option maxHeartbeats 1000000
namespace ZT
open PySem PySem.W PyProof.Rows
section
variable {prog : Program} {w : World} {A : Around} {E : Value → Shared → Prop} {s : Shared}
theorem collect_src {T : String} {r d : Addr} {n : Nat} {P : Nat → Value → Prop} {OK : Heap → Prop} {R : List Value → Shared → Prop} (K : KdlSrc prog w T r d n P OK) (hh : A.handled = none) (hok : OK s.heap) (hn : n ≤ sizeLine)
    (h : ∀ (h' : Heap) (tk : Nat) (acc : Array Value), (∀ b o, s.heap.get? b = some o → h'.get? b = some o) → ItemsOf P acc n → R acc.toList { s with heap := h', toks := tk }) :
    wpAny (model prog w) A (collect (.ref r)) R E s := by
  have hlt := K.there _ hok
  unfold collect
  refine wpAny_bind (wpAny_runValue (codeAny_builtin entry_proto_collect' ?_))
  rw [Around.under_plainId PySem.F.plain_proto_collect _]
  show wpAny _ A.in1 (newList [] >>= fun l => again (.builtin "list.__iadd__" ⟨[l, .ref r], []⟩)) _ _ s
  refine wpAny_bind (wpAny_newObj_type ?_)
  refine wpAny_pure ⟨plainId_quiet PySem.F.plain_list_iadd _, codeAny_builtin entry_list_iadd' ?_⟩
  rw [Around.under_plainId PySem.F.plain_list_iadd _]
  have hS₁ : (s.heap.push { cls := .type "list", data := .seq ([] : List Value).toArray }).get? s.heap.objs.size = some { cls := .type "list", data := .seq #[] } := Heap.get?_push_size _ rfl
  show wpAny _ A.in1 (Builtin.List.listExtendWith (.ref s.heap.objs.size) (.ref r) (.ref s.heap.objs.size)) _ _ _
  have key := kdl_extend (A := A) (s := { s with heap := s.heap.push { cls := .type "list", data := .seq ([] : List Value).toArray } }) K
    (R := fun (q : Result) (s' : Shared) => ∃ (h' : Heap) (tk : Nat) (acc' : Array Value) (c' : Nat), q = .ok (.ret (.ref s.heap.objs.size)) ∧ s' = { s with heap := h', toks := tk } ∧
      (∀ b o, s.heap.get? b = some o → h'.get? b = some o) ∧ h'.get? s.heap.objs.size = some { cls := .type "list", dict := none, data := .seq acc' c', slots := #[] } ∧ ItemsOf P acc' n)
    hh (K.keep _ _ hok fun b _ o e => Heap.get?_push_of_some _ e) s.heap.objs.size (Nat.ne_of_gt hlt.1) (Nat.ne_of_gt hlt.2) (.ref s.heap.objs.size) 0 hS₁
    (fun h' tk acc' c' hk hS' hacc => ⟨h', tk, acc', c', rfl, rfl, fun b o e => hk b o (Nat.ne_of_lt (Heap.lt_size e)) (Heap.get?_push_of_some _ e), hS', hacc⟩) hn
  refine wpAny_mono key (fun fin s' x => ?_) fun e s' x => ?_
  · cases fin with
    | done f =>
      obtain ⟨h', tk, acc', c', e, rfl, hk, hS', hacc⟩ := x
      cases e
      show wpAny _ A (load s.heap.objs.size >>= _) _ _ _
      refine wpAny_bind (wpAny_load hS' ?_)
      exact wpAny_pure (h h' tk acc' hk hacc)
    | again c₁ =>
      refine ⟨x.1, codeAny_mono x.2 fun q s₂ y => ?_⟩
      obtain ⟨h', tk, acc', c', rfl, rfl, hk, hS', hacc⟩ := y
      show wpAny _ A (load s.heap.objs.size >>= _) _ _ _
      refine wpAny_bind (wpAny_load hS' ?_)
      exact wpAny_pure (h h' tk acc' hk hacc)
  · obtain ⟨_, _, _, _, e', _⟩ := x
    cases e'
open L2 in
theorem sorted_dict {d : Addr} {kvs : List (Key × Value)} {ep : Nat} {names : List Str} {Q : Value → Shared → Prop} (hh : A.handled = none) (lo : (d == sysModules) = false) (hm : s.heap.DictAt (mixKind prog w) d kvs ep) (hk : kvs.map (·.1) = names.map Sum.inr) (h64 : kvs.length < 64)
    (h : ∀ (h' : Heap) (tk : Nat) (D : Addr) (out : Array Value) (ss' : List Str) (c : Nat), (∀ b o, s.heap.get? b = some o → h'.get? b = some o) → s.heap.get? D = none → StrsAre out.toList ss' → ss'.Perm names → sortedS ss' = true → h'.get? D = some (seqObj "list" out c) → Q (.ref D) { s with heap := h', toks := tk }) :
    wpAny (model prog w) A (call (.builtin "sorted") [.ref d]) Q E s := by
  have hln : kvs.length = names.length := by simpa using congrArg List.length hk
  refine Calls.call_function_entry kind_sorted plain_sorted entry_sorted (args_sorted1 _) ?_
  unfold Builtin.«sorted»
  refine wpAny_bind (m := checkCount "sorted" 1 1 _) (wpAny_pure ?_)
  refine wpAny_bind (collect_src (kdl_dict (knd := mixKind prog w) (kvs := kvs) (ep := ep) lo) hh hm (by rw [sizeLine_eq]; omega) fun h1 tk acc hk1 hacc => ?_)
  have hS : StrsAre acc.toList names := by
    have hl : acc.toList.length = names.length := by rw [Array.length_toList, hacc.1, hln]
    have hi : ∀ (i : Nat) (v : Value), acc.toList[i]? = some v → ∃ t, v = .str (names.getD i ⟨#[]⟩) t := fun i v e => by
      obtain ⟨k, x, e1, e2⟩ := hacc.2 i v (by rw [← Array.getElem?_toList]; exact e)
      have hi : i < names.length := by rw [← hln]; exact (List.getElem?_eq_some_iff.mp e1).1
      have ek : k = Sum.inr (names.getD i ⟨#[]⟩) := by
        have := congrArg (fun l => l[i]?) hk
        simp only [List.getElem?_map, e1, Option.map_some] at this
        rw [List.getElem?_eq_getElem hi] at this
        have e4 : k = Sum.inr names[i] := by simpa using this
        rw [e4]; simp [hi]
      subst ek
      rcases keyIs_shape (k := Sum.inr (names.getD i ⟨#[]⟩)) (v := v) e2 with ⟨j, t, e', _⟩ | ⟨z, t, e', e3⟩
      · cases e'
      · cases e'; exact ⟨t, e3⟩
    clear hacc hk hln h
    generalize acc.toList = vs at hl hi
    induction vs generalizing names with
    | nil =>
      cases names with
      | nil => exact .nil
      | cons _ _ => simp at hl
    | cons v vs ih =>
      cases names with
      | nil => simp at hl
      | cons z names =>
        obtain ⟨t, rfl⟩ := hi 0 v rfl
        exact .cons _ t (ih (by simpa using hl) fun i v e => by simpa using hi (i + 1) v (by simpa using e))
  have hlv : acc.toList.length = names.length := by rw [Array.length_toList, hacc.1, hln]
  refine wpAny_bind (wpAny_newList ?_ (by rw [hlv, sizeLine_eq]; omega))
  have hoL : (h1.push (seqObj "list" acc.toList.toArray 0)).get? h1.objs.size = some (seqObj "list" acc.toList.toArray 0) := Heap.get?_push_size _ rfl
  have hDn : s.heap.get? h1.objs.size = none := by
    cases q : s.heap.get? h1.objs.size with
    | none => rfl
    | some o => exact absurd (Heap.lt_size (hk1 _ _ q)) (Nat.lt_irrefl _)
  refine wpAny_bind (wpAny_holding (wpAny_call_entry slot_list_sort ⟨_, hoL, rfl⟩ entry_list_sort (list_sort_treeK strKind_oneLt hoL hS.keysOf (fun v₁ v₂ rest e => keyKind_strs (by rw [← e]; exact hS)) (by rw [hlv, ← hln]; exact h64) fun st' hp hs => ⟨_, rfl, ?_⟩) (args_list_sort _)))
  refine wpAny_pure ⟨_, rfl, ?_⟩
  obtain ⟨ss', h2, h3, h4⟩ := sorted_out_str hS hp hs
  obtain ⟨e1, ho1⟩ : ∃ e1, ((h1.push (seqObj "list" acc.toList.toArray 0)).update h1.objs.size (Obj.mapSeq fun _ => #[])).get? h1.objs.size = some (seqObj "list" #[] e1) := ⟨_, get?_update_seq hoL (fun _ => #[])⟩
  have ho6 : ((((h1.push (seqObj "list" acc.toList.toArray 0)).update h1.objs.size (Obj.mapSeq fun _ => #[])).push (seqObj "tuple" acc.toList.toArray 0)).push (seqObj "list" #[] 0)).get? h1.objs.size = some (seqObj "list" #[] e1) := Heap.get?_push_of_some _ (Heap.get?_push_of_some _ ho1)
  refine h _ tk h1.objs.size _ ss' _ (fun b o e => ?_) hDn h2 h3 h4 (get?_update_seq ho6 _)
  have hb : b ≠ h1.objs.size := Nat.ne_of_lt (Heap.lt_size (hk1 b o e))
  unfold sortedHeap
  exact (Heap.get?_update_other _ _ (Ne.symm hb)).trans (Heap.get?_push_of_some _ (Heap.get?_push_of_some _ ((Heap.get?_update_other _ _ (Ne.symm hb)).trans (Heap.get?_push_of_some _ (hk1 b o e)))))
end
end ZT
set_option Elab.async false
set_option linter.all false
set_option maxRecDepth 100000
namespace L2
open PySem PySem.Spec PyProof.Rows
theorem ObjOk.is {P : Program} {w : World} {H : Hp} {h : Heap} {a : Addr} {o : HO} (x : ObjOk P w H h a o) : ∃ ob, h.get? a = some ob := by
  cases o with
  | lst xs => obtain ⟨_, _, _, _, e⟩ := x; exact ⟨_, e⟩
  | tup xs => obtain ⟨_, _, _, ob, e, _⟩ := x; exact ⟨_, e⟩
  | dK kvs => obtain ⟨_, _, _, _, o, _, _, e, _⟩ := x; exact ⟨_, e⟩
  | dT kvs => obtain ⟨_, _, _, _, o, _, _, e, _⟩ := x; exact ⟨_, e⟩
  | set S n => obtain ⟨o, _, _, _, e, _⟩ := x; exact ⟨_, e⟩
  | ins C dx fs => obtain ⟨_, _, _, e, _⟩ := x; exact ⟨_, e⟩
  | own y => exact x
  | xd fs => obtain ⟨_, ⟨_, _, _, e, _⟩, _⟩ := x; exact ⟨_, e⟩
  | rng lo hi => obtain ⟨_, _, _, e⟩ := x; exact ⟨_, e⟩
  | frz ob u => obtain ⟨e, _⟩ := x; exact ⟨_, e⟩
  | tbl ps => exact ⟨_, (show h.get? a = some _ from x)⟩
  | met f y => exact ⟨_, (show h.get? a = some _ from x)⟩
  | ext φ => obtain ⟨_, e, _⟩ := x; exact e
section
variable {X : Cx} {pins : List (Addr × Obj)} {σ : St} {H H' : Hp} {s : Shared} {h' : Heap}
theorem Inv.none_at (I : Inv X pins σ H s) {b : Addr} (e : s.heap.get? b = none) : H b = none := by
  cases q : H b with
  | none => rfl
  | some u =>
    obtain ⟨ob, h1⟩ := (I.hok b u q).is
    rw [e] at h1; cases h1
theorem Inv.laids {t' : Nat} (I : Inv X pins σ H s) (k : ∀ b o, s.heap.get? b = some o → h'.get? b = some o) (sm : Same H H') (nw : ∀ b u, H' b = some u → H b = some u ∨ (s.heap.get? b = none ∧ ObjOk X.prog X.w H' h' b u)) :
    Inv X pins σ H' { s with heap := h', toks := t' } := by
  refine I.call (g' := s.gens) (d' := s.drawn) (ch := []) ⟨fun b o e _ _ _ => k b o e, fun b o e _ _ _ => ⟨o.slots, k b o e⟩, fun b o e n _ => ?_, fun b o e _ => ⟨o, k b o e⟩, fun b ys q => sm _ _ q, fun b u ys q => sm _ _ q, fun b ps q => ⟨#[], by rw [sm _ _ q]; simp⟩⟩ (fun b u e => ?_) I.bare fun b hb => by cases hb
  · cases q : H' b with
    | none => rfl
    | some u =>
      rcases nw b u q with z | ⟨z, _⟩
      · rw [n] at z; cases z
      · rw [e] at z; cases z
  · rcases nw b u e with z | z
    · exact (I.hok b u z).stay (fun c v _ q => k c v q) (fun c q => sm _ _ q) fun c ys q => sm _ _ q
    · exact z.2
end
section
variable {X : Cx} {K : PySem.W.Frag} {pos : Pos}
theorem laidD {α : Pl} {h : HpM} {H : Hp} {p : Addr} {kvs : List (Key × M)} {ws : List (Key × V)} (hr : Rl K α h H) (hp : H p = none) (rs : RepD K α H kvs ws) : RepA K α (upd H p (.dK ws)) (.dct (kvs.map (·.1)) (kvs.map (·.2))) (.ref p) :=
  ⟨p, ws, rfl, hr.new hp, .inl upd_same, rs.1, rs.2.ev (.same (same_new hp _))⟩
theorem allocD {α : Pl} {h : HpM} {H : Hp} {l : Addr} {kvs : List (Key × M)} {ws : List (Key × V)} {Q : VK} (hr : Rl K α h H) (hl : H l = none) (rs : RepD K α H kvs ws) (k : ∀ α' H' w, Ev α α' H H' → Rl K α' (h ++ [.dct kvs]) H' → RepA K α' H' (.ref h.length) w → Q w H') : Q (.ref l) (upd H l (.dK ws)) := by
  have ea : Ev α (α.add l) H (upd H l (.dK ws)) := .alloc hl
  exact k (α.add l) _ _ ea (hr.alloc hl ⟨ws, upd_same, rs.1, rs.2.ev ea⟩) ⟨l, by rw [← hr.len]; simp [Pl.add], rfl⟩
def mNewDH : FE := fun _ h => some (.ref h.length, h ++ [.dct []])
theorem me_newDH : PE X (.Dict [] [] pos) (tM X.K mNewDH) := pe_dnewK.imp fun σ H Q ⟨α, ρ, h, d, h', hσ, hr, e, k⟩ => by
  cases e
  intro p hp
  exact allocD hr hp .nil k
def putO (x y v : M) (h : HpM) : Option HpM := match x, keyM y with
  | .ref k, some key => (match h[k]? with | some (.dct kvs) => if kvs.length < 16777216 then some (h.set k (.dct (putM kvs key v))) else none | _ => none)
  | _, _ => none
theorem putO_inv {x y v : M} {h h' : HpM} (e : putO x y v h = some h') : ∃ k key kvs, x = .ref k ∧ keyM y = some key ∧ h[k]? = some (.dct kvs) ∧ kvs.length < 16777216 ∧ h' = h.set k (.dct (putM kvs key v)) := by
  unfold putO at e
  split at e
  · rename_i k key hk
    split at e
    · rename_i kvs hkv
      split at e
      · rename_i hl
        cases e
        exact ⟨k, key, kvs, rfl, hk, hkv, hl, rfl⟩
      · cases e
    · cases e
  · cases e
def sDput (md mi mv : FE) : FS := fun ρ h => bnd (mv ρ h) fun v h1 => bnd (md ρ h1) fun x h2 => bnd (mi ρ h2) fun y h3 => (putO x y v h3).map fun h4 => (.nx ρ, h4)
theorem ms_dput {o i value : Expr} {mo mi mv : FE} {pos' : Pos} (hu : X.A.units + 1 < cLine) (ho : PE X o (tM X.K mo)) (hi : PE X i (tM X.K mi)) (hv : PE X value (tM X.K mv)) (hs : swapsWith value (some (.Subscript o i pos')) pos.line X.env = pure false) :
    PS X (.Assign [.Subscript o i pos'] value pos) (sM X.K (sDput mo mi mv)) := (ps_dput hu ho hi hv hs).imp fun D σ H ⟨α, ρ, h, d, h', hσ, hr, e, k⟩ => by
  obtain ⟨v, h1, e1, e⟩ := bnd_inv e
  obtain ⟨x, h2, e2, e⟩ := bnd_inv e
  obtain ⟨y, h3, e3, e⟩ := bnd_inv e
  obtain ⟨h4, e4, e5⟩ := Option.map_eq_some_iff.mp e
  cases e5
  refine ⟨α, ρ, h, v, h1, hσ, hr, e1, fun α1 H1 uv ev1 hr1 rv => ⟨α1, ρ, h1, x, h2, hσ.ev ev1, hr1, e2, fun α2 H2 ux ev2 hr2 rx => ⟨α2, ρ, h2, y, h3, (hσ.ev ev1).ev ev2, hr2, e3, fun α3 H3 uy ev3 hr3 ry => ?_⟩⟩⟩
  obtain ⟨q, key, kvs, rfl, e6, e7, hl, rfl⟩ := putO_inv e4
  obtain ⟨a, ha, rfl⟩ := rx.ev ev3
  obtain ⟨ws, hw, r1, r2⟩ := hr3.obj q a _ ha e7
  cases (keyM_rep e6 ry)
  have hlw : ws.length < sizeLine := by
    have := congrArg List.length r1
    simp only [List.length_map] at this
    rw [this, sizeLine_eq]; exact hl
  have rD : RepD X.K α3 H3 kvs ws := ⟨r1, r2⟩
  have ev4 : Ev α3 α3 H3 (upd H3 a (.dK (putK ws key uv))) := Ev.write hr3 (List.mem_of_getElem? ha)
  have rD' := (rD.put (k := key) ((rv.ev ev2).ev ev3)).ev ev4
  exact ⟨a, _, rfl, DPut.k hw hlw, k α3 _ (((ev1.trans ev2).trans ev3).trans ev4) (hr3.write ha ⟨_, upd_same, rD'.1, rD'.2⟩) σ (((hσ.ev ev1).ev ev2).ev ev3 |>.ev ev4)⟩
end
section
variable {X : Cx} {K : PySem.W.Frag}
def PairsV (K : PySem.W.Frag) (H : Hp) (ps : List V) (ws : List (Key × V)) : Prop := ps.length = ws.length ∧ ∀ (i : Nat) (v : V), ps[i]? = some v → ∃ b w, v = .ref b ∧ ws[i]? = some w ∧ SqT K H b [kV w.1, w.2]
theorem pairs_vals {pins : List (Addr × Obj)} {σ : St} {H : Hp} {s : Shared} (I : Inv X pins σ H s) : ∀ {ps : List V} {ws : List (Key × V)} {its : List Value}, PairsV X.K H ps ws → Vals ps its → ∃ kvs : List (Key × Value), KV ws kvs ∧ kvs.length = its.length ∧
    ∀ (i : Nat) (v : Value), its[i]? = some v → ∃ a key x k o c, v = .ref a ∧ kvs[i]? = some (k, x) ∧ (mixKind X.prog X.w).is k key = true ∧ s.heap.get? a = some o ∧ o.cls = .type "tuple" ∧ o.data = .seq #[key, x] c := by
  intro ps
  induction ps with
  | nil =>
    intro ws its h r
    cases r
    have : ws = [] := List.length_eq_zero_iff.mp h.1.symm
    subst this
    exact ⟨[], .nil, rfl, fun i v e => by simp at e⟩
  | cons p ps ih =>
    intro ws its h r
    cases r with
    | cons r0 rr =>
      rename_i u its
      cases ws with
      | nil => exact absurd h.1 (by simp)
      | cons w ws =>
        obtain ⟨b, w', rfl, e1, sq⟩ := h.2 0 p rfl
        cases (show w = w' by simpa using e1)
        obtain ⟨kvs, h1, h2, h3⟩ := ih (ws := ws) (its := its) ⟨by simpa using h.1, fun i v e => by simpa using h.2 (i + 1) v (by simpa using e)⟩ rr
        obtain ⟨ys, rv, ht, hz⟩ := I.tuple sq
        obtain ⟨key, x, rfl, rk, rx⟩ := vals2 rv
        obtain ⟨o, ho, hc, n, hd⟩ := ht
        refine ⟨(w.1, x) :: kvs, .cons ⟨rfl, rx⟩ h1, by simp [h2], fun i v e => ?_⟩
        cases i with
        | zero =>
          have e' : u = v := by simpa using e
          subst e'
          exact ⟨b, key, x, w.1, o, n, r0, rfl, kV_is rk, ho, hc, by simpa using hd⟩
        | succ i =>
          obtain ⟨a', key', x', k', o', c', q⟩ := h3 i v (by simpa using e)
          exact ⟨a', key', x', k', o', c', q.1, by simpa using q.2.1, q.2.2⟩
def rDict (K : PySem.W.Frag) : List V → Hp → VK → Prop := fun xs H Q => (∃ a ws, xs = [.ref a] ∧ Rd H a (.dK ws) ∧ ∀ p, H p = none → Q (.ref p) (upd H p (.dK ws))) ∨
  ∃ a ps ws, xs = [.ref a] ∧ (SqL K H a ps ∨ SqT K H a ps) ∧ PairsV K H ps ws ∧ ws.length ≤ sizeLine ∧ ∀ p, H p = none → Q (.ref p) (upd H p (.dK (mergeK [] ws)))
theorem call_dictM (hc : X.calm = true) : CallR X (.type "dict") (rDict X.K) := by
  intro pins s σ H xs us Q I r h
  rcases h with ⟨a, ws, rfl, ha, q⟩ | ⟨a, ps, ws, rfl, ha, hp, hz, q⟩
  · obtain ⟨u, rfl, ru⟩ := vals1 r
    obtain rfl : u = Value.ref a := ru
    exact d_copyOf I ha fun p s' hn I' => ⟨.ref p, _, I', rfl, q p hn⟩
  · obtain ⟨u, rfl, ru⟩ := vals1 r
    obtain rfl : u = Value.ref a := ru
    have hh : X.A.handled = none := I.ok.hd hc
    have fin : ∀ {its : List Value} (kvs : List (Key × Value)), KV ws kvs → ∀ h' tk, (∀ b o, s.heap.get? b = some o → h'.get? b = some o) → h'.DictOf (mixKind X.prog X.w) s.heap.objs.size (merged [] kvs) → EP X pins σ Q (.ref s.heap.objs.size) { s with heap := h', toks := tk } := by
      intro its kvs rk h' tk hk hD
      have hl : (mergeK [] ws).length ≤ sizeLine := by
        have := length_mergeK ws []
        rw [List.length_nil] at this
        omega
      exact ⟨.ref _, _, I.laid (a := s.heap.objs.size) (o := .dK (mergeK [] ws)) (t' := tk) hk (Nat.le_refl _) (dk_new hl (beq_eq_false_iff_ne.mpr (Ne.symm (Nat.ne_of_lt I.big))) (KV.merge rk .nil) hD), rfl, q _ (I.hok.fresh (Nat.le_refl _))⟩
    rcases ha with ha | ha
    · obtain ⟨its, rv, pl, hz'⟩ := I.list ha
      obtain ⟨kvs, rk, hlen, hit⟩ := pairs_vals I hp rv
      obtain ⟨o, n, ho, hcl, hd, hda⟩ := id pl
      refine ZT.dict_pairs (knd := mixKind X.prog X.w) (kvs := kvs) (its := its.toArray) (T := "list") hh pl.isList.typeIs (by decide) (fun s' Q' E' hk hq => ZT.no_keys_list (hk _ _ ho) hcl hda hd hh hq) (fun s' Q' E' hk hq => ?_) (Heap.lt_size ho) (fun i v e => hit i v (by simpa using e)) (by simpa using hlen) (by rw [← KV.length rk]; exact hz) (fin (its := its) kvs rk)
      have hl' : s'.heap.IsList a its.toArray := ⟨o, hk _ _ ho, hcl, n, hda⟩
      have hne : a ≠ s'.heap.objs.size := Nat.ne_of_lt (Heap.lt_size (hk _ _ ho))
      refine wpAny_pyIter_list hl' (hq s'.heap.objs.size _ _ (Heap.get?_none_of_le (Nat.le_refl _)) (fun b o e => Heap.get?_push_of_some _ e) (Walks.list (A := X.A.in1.in1) hh s'.heap.objs.size a hne its.toArray) ⟨⟨_, Heap.get?_push_size _ rfl, rfl, rfl⟩, ?_⟩)
      exact ⟨o, Heap.get?_push_of_some _ (hk _ _ ho), hcl, n, hda⟩
    · obtain ⟨its, rv, pl, hz'⟩ := I.tupleX ha
      obtain ⟨kvs, rk, hlen, hit⟩ := pairs_vals I hp rv
      obtain ⟨o, ho, hcl, n, hda⟩ := id pl
      refine ZT.dict_pairs (knd := mixKind X.prog X.w) (kvs := kvs) (its := its.toArray) (T := "tuple") hh pl.tup.typeIs (by decide) (fun s' Q' E' hk hq => ZT.no_keys_tuple (hk _ _ ho) hcl.1 hda hcl.2 hh hq) (fun s' Q' E' hk hq => ?_) (Heap.lt_size ho) (fun i v e => hit i v (by simpa using e)) (by simpa using hlen) (by rw [← KV.length rk]; exact hz) (fin (its := its) kvs rk)
      have hl' : s'.heap.IsTuple a its.toArray := ⟨o, hk _ _ ho, hcl.1, n, hda⟩
      have hne : a ≠ s'.heap.objs.size := Nat.ne_of_lt (Heap.lt_size (hk _ _ ho))
      refine wpAny_pyIter_tuple hl' (hq s'.heap.objs.size _ _ (Heap.get?_none_of_le (Nat.le_refl _)) (fun b o e => Heap.get?_push_of_some _ e) (Walks.tuple (A := X.A.in1.in1) hh s'.heap.objs.size a hne its.toArray) ⟨⟨_, Heap.get?_push_size _ rfl, rfl, rfl⟩, ?_⟩)
      exact ⟨o, Heap.get?_push_of_some _ (hk _ _ ho), hcl.1, n, hda⟩
def pairsM : List M → Option (List (Key × M))
  | [] => some []
  | .tup [k, v] :: r => (keyM k).bind fun k' => (pairsM r).map ((k', v) :: ·)
  | _ :: _ => none
def seqT (h : HpM) : M → Option (List M)
  | .tup xs => some xs
  | x => seqR h x
def dctM (kvs : List (Key × M)) : M := .dct (kvs.map (·.1)) (kvs.map (·.2))
def bDict (xs : List M) (h : HpM) : Option M := match xs with
  | [x] => (match dctOf h x with
    | some kvs => some (dctM kvs)
    | none => (seqT h x).bind fun ys => (pairsM ys).bind fun kvs => if kvs.length ≤ 16777216 then some (dctM (mergeM [] kvs)) else none)
  | _ => none
theorem pairsM_rep {α : Pl} {H : Hp} : ∀ {ys : List M} {kvs : List (Key × M)} {vs : List V}, pairsM ys = some kvs → RepAs K α H ys vs → ∃ ws, PairsV K H vs ws ∧ RepD K α H kvs ws := by
  intro ys
  induction ys with
  | nil =>
    intro kvs vs e r
    cases e
    cases (show vs = [] from r)
    exact ⟨[], ⟨rfl, fun i v e => by simp at e⟩, .nil⟩
  | cons y ys ih =>
    intro kvs vs e r
    obtain ⟨u, q, rfl, ru, rq⟩ := r
    unfold pairsM at e
    split at e
    · rename_i heq; cases heq
    · rename_i k v r' heq
      cases heq
      obtain ⟨k', e1, e⟩ := Option.bind_eq_some_iff.mp e
      obtain ⟨kvs', e2, rfl⟩ := Option.map_eq_some_iff.mp e
      obtain ⟨ws, h1, h2⟩ := ih e2 rq
      obtain ⟨a, us, rfl, t, rs⟩ := ru
      obtain ⟨u1, u2, rfl, r1, r2⟩ := rep2 rs
      refine ⟨(k', u2) :: ws, ⟨by simp [h1.1], fun i v e => ?_⟩, .cons rfl r2 h2⟩
      cases i with
      | zero =>
        have : V.ref a = v := by simpa using e
        subst this
        refine ⟨a, (k', u2), rfl, rfl, ?_⟩
        rw [← keyM_rep e1 r1]; exact t.sq
      | succ i =>
        obtain ⟨b, w, q1, q2, q3⟩ := h1.2 i v (by simpa using e)
        exact ⟨b, w, q1, by simpa using q2, q3⟩
    · cases e
theorem RepD.len {α : Pl} {H : Hp} {kvs : List (Key × M)} {ws : List (Key × V)} (r : RepD K α H kvs ws) : ws.length = kvs.length := by
  have := congrArg List.length r.1
  simpa using this
theorem fm_dict : CallM K (rDict K) bDict := by
  intro α h H xs d us Q hr rs e k
  unfold bDict at e
  split at e
  · obtain ⟨u, rfl, ru⟩ := rep1 rs
    split at e
    · rename_i kvs hk
      cases e
      obtain ⟨a, ws, rfl, ha, r1, r2⟩ := dctOf_rep hr ru hk
      exact .inl ⟨a, ws, rfl, ha, fun p hp => k _ _ (same_new hp _) (laidD hr hp ⟨r1, r2⟩)⟩
    · obtain ⟨ys, e1, e⟩ := Option.bind_eq_some_iff.mp e
      obtain ⟨kvs, e2, e⟩ := Option.bind_eq_some_iff.mp e
      split at e
      · rename_i hl
        cases e
        have hsq : ∃ a vs, u = .ref a ∧ (SqL K H a vs ∨ SqT K H a vs) ∧ RepAs K α H ys vs := by
          unfold seqT at e1
          split at e1
          · cases e1
            obtain ⟨a, vs, rfl, t, r⟩ := ru
            exact ⟨a, vs, rfl, .inr t.sq, r⟩
          · obtain ⟨a, vs, rfl, t, r⟩ := seqR_rep hr ru e1
            exact ⟨a, vs, rfl, .inl t, r⟩
        obtain ⟨a, vs, rfl, t, r⟩ := hsq
        obtain ⟨ws, h1, h2⟩ := pairsM_rep e2 r
        exact .inr ⟨a, vs, ws, rfl, t, h1, by rw [h2.len, sizeLine_eq]; exact hl, fun p hp => k _ _ (same_new hp _) (laidD hr hp (h2.merge .nil))⟩
      · cases e
  · cases e
end
end L2
set_option Elab.async false
set_option linter.all false
set_option maxRecDepth 100000
namespace L2
open PySem PySem.Spec PyProof.Rows
section
variable {X : Cx} {K : PySem.W.Frag}
theorem Rd.sm {H H' : Hp} {a : Addr} {u : HO} (r : Rd H a u) (s : Same H H') : Rd H' a u := r.elim (fun e => .inl (s _ _ e)) fun ⟨o, e⟩ => .inr ⟨o, s _ _ e⟩
def viewAt (r a : Addr) : Heap → Prop := fun h => h.IsItemsView r a
def rView : V → List V → Hp → VK → Prop := fun x xs H Q => ∃ a ws, x = .ref a ∧ xs = [] ∧ Rd H a (.dK ws) ∧ ∀ r, H r = none → Q (.ref r) (upd H r (.ext (viewAt r a)))
theorem mt_items : MtR X "dict.items" rView := by
  intro pins s σ H x xs v us Q I rx rs h
  obtain ⟨a, ws, rfl, rfl, ha, q⟩ := h
  cases rs
  obtain rfl : v = Value.ref a := rx
  obtain ⟨z, hd, vs, rel, dd⟩ := dk_rd I.hok ha
  refine call_meetsIn PySem.F.slot_dict_items dd.typeIs PySem.F.entry_dict_items (PySem.F.args_dict_items_1 _) (meets_dict_items (mixKind X.prog X.w) a hd) ⟨⟨vs, dd⟩, ?_⟩
  have hg : (s.heap.push { cls := .type "dict_items", data := .fields #[.ref a] }).get? s.heap.objs.size = some { cls := .type "dict_items", data := .fields #[.ref a] } := Heap.get?_push_size _ rfl
  refine ⟨.ref _, _, I.laid (a := s.heap.objs.size) (o := .ext (viewAt s.heap.objs.size a)) (t' := s.toks) (fun b o e => Heap.get?_push_of_some _ e) (Nat.le_refl _) ⟨⟨_, hg, rfl, rfl⟩, ⟨_, hg⟩, fun h1 h2 ⟨o, e, r⟩ hk => ⟨o, hk o e, r⟩⟩, rfl, q _ (I.hok.fresh (Nat.le_refl _))⟩
theorem idxOf_nd : ∀ {as : List Addr} {i : Nat}, as.Nodup → ∀ hi : i < as.length, as.idxOf as[i] = i
  | [], _, _, hi => by simp at hi
  | a :: as, 0, _, _ => by simp
  | a :: as, i + 1, hn, hi => by
    rw [List.nodup_cons] at hn
    have hi' : i < as.length := by simpa using hi
    have hne : a ≠ as[i] := fun z => hn.1 (by rw [z]; exact List.getElem_mem hi')
    rw [List.getElem_cons_succ, List.idxOf_cons]
    rw [show (a == as[i]) = false from by simpa using hne]
    simp only [cond_false]
    rw [idxOf_nd hn.2 hi']
def rPairs (H : Hp) (ws : List (Key × V)) (ix : List Nat) (Q : VK) : Prop := ∀ (D : Addr) (as : List Addr) (H' : Hp), Same H H' → H' D = some (.lst (ix.map fun i => V.ref (as.getD i 0))) → H D = none →
  (∀ (i : Nat) (w : Key × V), ws[i]? = some w → ∃ b, as[i]? = some b ∧ H b = none ∧ H' b = some (.tup [kV w.1, w.2])) → Q (.ref D) H'
theorem lay_pairs {pins : List (Addr × Obj)} {σ : St} {H : Hp} {s : Shared} {Q : VK} {ws : List (Key × V)} {kvs : List (Key × Value)} {h' : Heap} {tk : Nat} {D lo : Addr} {as : List Addr} {ix : List Nat} {c : Nat} (I : Inv X pins σ H s) (rel : KV ws kvs) (q : rPairs H ws ix Q)
    (hk : ∀ b o, s.heap.get? b = some o → h'.get? b = some o) (hD : s.heap.get? D = none) (hl : as.length = kvs.length) (hG : PySem.W.KdxG (mixKind X.prog X.w) kvs lo h' as) (hlo : s.heap.objs.size ≤ lo) (hDa : D ∉ as) (hix : ∀ i ∈ ix, i < kvs.length) (hil : ix.length ≤ sizeLine)
    (hg : h'.get? D = some (seqObj "list" (List.toArray (ix.map fun i => (as.map Value.ref).getD i Value.none)) c)) : EP X pins σ Q (.ref D) { s with heap := h', toks := tk } := by
  have hlw : ws.length = kvs.length := KV.length rel
  have hnd : as.Nodup := hG.rise.imp fun {a b} h => Nat.ne_of_lt h
  have hnew : ∀ b ∈ as, s.heap.get? b = none := fun b hb => Heap.get?_none_of_le (Nat.le_trans hlo (Nat.le_of_lt (hG.above b hb)))
  classical
  let H' : Hp := fun b => if b = D then some (.lst (ix.map fun i => V.ref (as.getD i 0))) else if b ∈ as then (ws[as.idxOf b]?).map (fun (w : Key × V) => HO.tup [kV w.1, w.2]) else H b
  have eD : H' D = some (.lst (ix.map fun i => V.ref (as.getD i 0))) := if_pos rfl
  have eA : ∀ (i : Nat) (b : Addr), as[i]? = some b → H' b = (ws[i]?).map (fun (w : Key × V) => HO.tup [kV w.1, w.2]) := fun i b e => by
    have hb : b ∈ as := List.mem_of_getElem? e
    have hbD : b ≠ D := fun z => hDa (z ▸ hb)
    have hi : as.idxOf b = i := by
      obtain ⟨hi, e'⟩ := List.getElem?_eq_some_iff.mp e
      rw [← e']; exact idxOf_nd hnd hi
    show (if b = D then _ else if b ∈ as then _ else _) = _
    rw [if_neg hbD, if_pos hb, hi]
  have sm : Same H H' := fun b o e => by
    have h1 : b ≠ D := fun z => by rw [z, I.none_at hD] at e; cases e
    have h2 : b ∉ as := fun z => by rw [I.none_at (hnew b z)] at e; cases e
    show (if b = D then _ else if b ∈ as then _ else _) = _
    rw [if_neg h1, if_neg h2]; exact e
  have valOf : ∀ (i : Nat) (w : Key × V), ws[i]? = some w → ∃ x, kvs[i]? = some (w.1, x) ∧ RelV w.2 x := by
    clear q hk hD hl hG hDa hix hil hg hnd hnew H' eD eA sm hlw
    induction rel with
    | nil => intro i w e; simp at e
    | cons r t ih =>
      rename_i a b l1 l2
      intro i w e
      cases i with
      | zero =>
        have : a = w := by simpa using e
        subst this
        exact ⟨b.2, by simp [r.1], r.2⟩
      | succ i => simpa using ih i w (by simpa using e)
  have I' : Inv X pins σ H' { s with heap := h', toks := tk } := I.laids hk sm fun b u e => by
    by_cases h1 : b = D
    · subst h1
      rw [eD] at e
      cases e
      refine .inr ⟨hD, ⟨by rw [List.length_map]; exact hil, _, c, ?_, hg⟩⟩
      clear hg eD hil q sm eA H'
      induction ix with
      | nil => exact .nil
      | cons i ix ih =>
        have hi : i < as.length := by rw [hl]; exact hix i List.mem_cons_self
        refine .cons ?_ (ih (fun i hi => hix i (List.mem_cons_of_mem _ hi)))
        show _ = Value.ref (as.getD i 0)
        simp [hi]
    · by_cases h2 : b ∈ as
      · obtain ⟨i, hi⟩ := List.getElem?_of_mem h2
        rw [eA i b hi] at e
        obtain ⟨w, ew, rfl⟩ := Option.map_eq_some_iff.mp e
        obtain ⟨key, k, x, e1, e2, e3⟩ := hG.pairs i b hi
        obtain ⟨x', e4, rx⟩ := valOf i w ew
        rw [e1] at e4
        cases e4
        refine .inr ⟨hnew b h2, ⟨by show 2 ≤ sizeLine; rw [sizeLine_eq]; decide, [key, x], .cons ?_ (.cons rx .nil), ⟨_, e3, ⟨rfl, rfl⟩, _, rfl⟩⟩⟩
        rcases keyIs_shape (k := w.1) (v := key) e2 with ⟨j, t, e5, rfl⟩ | ⟨z, t, e5, rfl⟩
        · rw [e5]; exact ⟨t, rfl⟩
        · rw [e5]; exact ⟨t, rfl⟩
      · have e' : (if b = D then _ else if b ∈ as then _ else H b) = some u := e
        rw [if_neg h1, if_neg h2] at e'
        exact .inl e'
  refine ⟨.ref D, H', I', rfl, q D as H' sm eD (I.none_at hD) fun i w ew => ?_⟩
  have hi : i < as.length := by rw [hl, ← hlw]; exact (List.getElem?_eq_some_iff.mp ew).1
  exact ⟨as[i], List.getElem?_eq_getElem hi, I.none_at (hnew _ (List.getElem_mem hi)), by rw [eA i _ (List.getElem?_eq_getElem hi), ew]; rfl⟩
def rSortView : List V → Hp → VK → Prop := fun xs H Q => ∃ r a ws names, xs = [.ref r] ∧ H r = some (.ext (viewAt r a)) ∧ Rd H a (.dK ws) ∧ ws.map (·.1) = names.map Sum.inr ∧ ws.length < 64 ∧
  ∀ p : Array Nat, ZT.PermN ws.length p → ZT.srt (ZT.ltN names) p ws.length → names.Nodup → rPairs H ws p.toList Q
theorem call_sortView (hc : X.calm = true) : CallR X (.builtin "sorted") rSortView := by
  intro pins s σ H xs us Q I r h
  obtain ⟨v, a, ws, names, rfl, hv, ha, hn, h64, q⟩ := h
  obtain ⟨u, rfl, ru⟩ := vals1 r
  obtain rfl : u = Value.ref v := ru
  obtain ⟨z, hd, vs, rel, dd⟩ := dk_rd I.hok ha
  obtain ⟨ep, da⟩ := dd.dictAt
  have vw : s.heap.IsItemsView v a := (show ObjOk X.prog X.w H s.heap v (.ext (viewAt v a)) from I.hok _ _ hv).1
  have hlw : ws.length = vs.length := KV.length rel
  have hkn : vs.map (·.1) = names.map Sum.inr := by rw [← KV.keys rel]; exact hn
  have hnd : names.Nodup := by
    have := da.nodup
    rw [hkn] at this
    exact (List.Pairwise.of_map (f := Sum.inr) (fun a b h z => h (by rw [z])) this)
  refine ZT.sorted_view (kvs := vs) (ep := ep) (names := names) (I.ok.hd hc) vw da hkn (by rw [← hlw]; exact h64) fun h' tk D as p c hk hD hl hG hDa hp hs hg => ?_
  rw [← hlw] at hp hs
  refine lay_pairs I rel (q p hp hs hnd) hk hD hl hG (Nat.le_refl _) hDa (fun i hi => ?_) (by rw [Array.length_toList, hp.size]; exact z) hg
  rw [← hlw]
  exact List.mem_range.mp (hp.list.mem_iff.mp hi)
def kM : Key → M
  | .inl i => .int i
  | .inr z => .str z
def pairM (kv : Key × M) : M := .tup [kM kv.1, kv.2]
theorem pairs_rep {α : Pl} {h : HpM} {H H' : Hp} {kvs : List (Key × M)} {ws : List (Key × V)} {as : List Addr} (hr : Rl K α h H) (sm : Same H H') (rD : RepD K α H kvs ws) (ha : ∀ (i : Nat) (w : Key × V), ws[i]? = some w → ∃ b, as[i]? = some b ∧ H b = none ∧ H' b = some (.tup [kV w.1, w.2])) :
    ∀ ix : List Nat, (∀ i ∈ ix, i < kvs.length) → RepAs K α H' (ix.map fun i => pairM (kvs.getD i (.inl 0, .non))) (ix.map fun i => V.ref (as.getD i 0))
  | [], _ => rfl
  | i :: ix, hi => by
    refine ⟨_, _, rfl, ?_, pairs_rep hr sm rD ha ix fun i h => hi i (List.mem_cons_of_mem _ h)⟩
    have h1 : i < kvs.length := hi i List.mem_cons_self
    have h2 : i < ws.length := by rw [rD.len]; exact h1
    obtain ⟨b, e1, e2, e3⟩ := ha i ws[i] (List.getElem?_eq_getElem h2)
    have ek : ws[i].1 = kvs[i].1 := by
      have := congrArg (fun l => l[i]?) rD.1
      simp only [List.getElem?_map, List.getElem?_eq_getElem h1, List.getElem?_eq_getElem h2, Option.map_some] at this
      simpa using this
    have ev : RepA K α H kvs[i].2 ws[i].2 := by
      obtain ⟨v, hv, rv⟩ := rD.2.get (i := i) (m := kvs[i].2) (by simp [h1])
      have : v = ws[i].2 := by simpa [h2] using hv.symm
      rw [← this]; exact rv
    show RepA K α H' (pairM (kvs.getD i (.inl 0, .non))) (V.ref (as.getD i 0))
    rw [show as.getD i 0 = b by simp [List.getD, e1], show kvs.getD i (.inl 0, .non) = kvs[i] by simp [h1]]
    refine ⟨b, _, rfl, .inl ⟨.inl e3, hr.new e2⟩, ?_⟩
    rw [ek]
    refine ⟨_, _, rfl, ?_, _, _, rfl, ev.ev (.same sm), rfl⟩
    cases kvs[i].1 <;> rfl
theorem lst_rep {α : Pl} {h : HpM} {H H' : Hp} {D : Addr} {ys : List M} {vs : List V} (hr : Rl K α h H) (hn : H D = none) (hD : H' D = some (.lst vs)) (rs : RepAs K α H' ys vs) : RepA K α H' (.lst ys) (.ref D) := ⟨D, vs, rfl, hr.new hn, hD, rs⟩
variable {a : Expr} {ma : FE} {p1 pos1 pos2 ap : Pos}
def namesM : List (Key × M) → Option (List Str)
  | [] => some []
  | (.inr z, _) :: r => (namesM r).map (z :: ·)
  | _ :: _ => none
theorem namesM_eq : ∀ {kvs : List (Key × M)} {names : List Str}, namesM kvs = some names → kvs.map (·.1) = names.map Sum.inr
  | [], _, e => by cases e; rfl
  | (.inr z, m) :: r, names, e => by
    obtain ⟨ns, e1, rfl⟩ := Option.map_eq_some_iff.mp e
    rw [List.map_cons, List.map_cons, namesM_eq e1]
  | (.inl _, _) :: _, _, e => by cases e
def sortP (kvs : List (Key × M)) (names : List Str) : List M := (sortS names).map fun z => .tup [.str z, (valM kvs (.inr z)).getD .non]
def opSortItems (x : M) (h : HpM) : Option M := (dctOf h x).bind fun kvs => (namesM kvs).bind fun names => if kvs.length < 64 then some (.lst (sortP kvs names)) else none
theorem valM_nd {kvs : List (Key × M)} (hn : (kvs.map (·.1)).Nodup) {i : Nat} (hi : i < kvs.length) : valM kvs kvs[i].1 = some kvs[i].2 := by
  induction kvs generalizing i with
  | nil => simp at hi
  | cons kv kvs ih =>
    rw [List.map_cons, List.nodup_cons] at hn
    cases i with
    | zero => simp [valM]
    | succ i =>
      have hi' : i < kvs.length := by simpa using hi
      have hne : kv.1 ≠ kvs[i].1 := fun z => hn.1 (by rw [z]; exact List.mem_map_of_mem (List.getElem_mem hi'))
      have := ih hn.2 hi'
      unfold valM at this ⊢
      rw [List.find?_cons]
      simp only [List.getElem_cons_succ, hne, decide_false]
      exact this
theorem sorted_eq {kvs : List (Key × M)} {names : List Str} {p : Array Nat} (hk : kvs.map (·.1) = names.map Sum.inr) (hn : names.Nodup) (hp : ZT.PermN kvs.length p) (hs : ZT.srt (ZT.ltN names) p kvs.length) :
    (p.toList.map fun i => pairM (kvs.getD i (.inl 0, .non))) = sortP kvs names := by
  have hln : kvs.length = names.length := by simpa using congrArg List.length hk
  have hin : ∀ i ∈ p.toList, i < kvs.length := fun i hi => List.mem_range.mp (hp.list.mem_iff.mp hi)
  have e1 : (p.toList.map fun i => names.getD i ⟨#[]⟩) = sortS names := by
    refine perm_eq leS_anti ?_ ?_ (sortS_pw names)
    · refine List.Perm.trans ?_ (List.mergeSort_perm names leS).symm
      have h1 := hp.list.map fun i => names.getD i ⟨#[]⟩
      have h2 : ((List.range kvs.length).map fun i => names.getD i ⟨#[]⟩) = names := by
        rw [hln]
        apply List.ext_getElem (by simp)
        intro i h3 h4
        simp [h4]
      rw [h2] at h1
      exact h1
    · rw [List.pairwise_map, List.pairwise_iff_getElem]
      intro i j hi hj hij
      have hi' : i < p.size := by simpa using hi
      have hj' : j < p.size := by simpa using hj
      have := hs i j hij (by rw [← hp.size]; exact hj')
      rw [ZT.getD_at hi', ZT.getD_at hj'] at this
      unfold ZT.ltN at this
      simp only [decide_eq_true_eq] at this
      simp only [Array.getElem_toList]
      unfold leS
      simp only [Bool.not_eq_true', decide_eq_false_iff_not]
      first
        | exact fun z => List.lt_irrefl _ (List.lt_trans this z)
        | (rw [ltCps_eq]; simp only [decide_eq_false_iff_not]; exact fun z => List.lt_irrefl _ (List.lt_trans this z))
  unfold sortP
  rw [← e1, List.map_map]
  refine List.map_congr_left fun i hi => ?_
  have h1 := hin i hi
  have h2 : i < names.length := by rw [← hln]; exact h1
  have ek : kvs[i].1 = Sum.inr names[i] := by
    have := congrArg (fun l => l[i]?) hk
    simp only [List.getElem?_map, List.getElem?_eq_getElem h1, List.getElem?_eq_getElem h2, Option.map_some] at this
    simpa using this
  have hv := valM_nd (kvs := kvs) (by rw [hk]; exact hn.map Sum.inr (fun a b h z => h (Sum.inr.inj z))) h1
  rw [ek] at hv
  show pairM (kvs.getD i (.inl 0, .non)) = M.tup [.str (names.getD i ⟨#[]⟩), (valM kvs (.inr (names.getD i ⟨#[]⟩))).getD .non]
  rw [show names.getD i ⟨#[]⟩ = names[i] by simp [h2], show kvs.getD i (.inl 0, .non) = kvs[i] by simp [h1], hv]
  unfold pairM
  rw [ek]; rfl
theorem me_sortItems (hc : X.calm = true) (q1 : NmOk X.env.scope "sorted" .globalImplicit) (m1 : X.mg "sorted" = none) (ha : PE X a (tM X.K ma)) (hbase : attributeBase a "items" X.env (eval a X.env) = eval a X.env) (hline : (ap.endLine == pos2.line) = true) :
    PE X (.Call (.Name "sorted" p1) [.Call (.Attribute a "items" ap) [] [] pos2] [] pos1) (tM X.K (mUn opSortItems ma)) :=
  (pe_callBk (call_sortView hc) q1 m1 PyProof.Rows.boot_sorted (pa_c (pe_bm0 PySem.F.plainAttrs_dict PySem.F.slot_dict_items PySem.F.type_dict_items mt_items ha hbase hline) pa_nil (by rfl)) (by rfl) (by rfl)).imp fun σ H Q ⟨α, ρ, h, d, h', hσ, hr, e, k⟩ => by
  obtain ⟨x, h1, e1, e⟩ := bnd_inv e
  obtain ⟨e3, e4⟩ := map_inv e
  dsimp only at e3 e4
  subst e4
  obtain ⟨kvs, e5, e3⟩ := Option.bind_eq_some_iff.mp e3
  obtain ⟨names, e6, e3⟩ := Option.bind_eq_some_iff.mp e3
  split at e3
  · rename_i h64
    cases e3
    refine ⟨α, ρ, h, x, _, hσ, hr, e1, fun α1 H1 v ev1 hr1 rv => ?_⟩
    obtain ⟨b, ws, rfl, hb, r1, r2⟩ := dctOf_rep hr1 rv e5
    have rD : RepD X.K α1 H1 kvs ws := ⟨r1, r2⟩
    refine ⟨.inr (.inr (.inl ⟨rfl, .inl ⟨ws, hb⟩⟩)), b, ws, rfl, rfl, hb, fun r hn => ?_⟩
    have s1 : Same H1 (upd H1 r (.ext (viewAt r b))) := same_new hn _
    have hr2 := hr1.same s1
    refine ⟨r, b, ws, names, rfl, upd_same, hb.sm s1, by rw [r1]; exact namesM_eq e6, by rw [rD.len]; exact h64, fun p hp hs hnd D as H2 sm eD hD has => ?_⟩
    rw [rD.len] at hp hs
    have rep := pairs_rep (as := as) hr2 sm (rD.ev (.same s1)) has p.toList (fun i hi => List.mem_range.mp (hp.list.mem_iff.mp hi))
    rw [sorted_eq (namesM_eq e6) hnd hp hs] at rep
    exact k α1 H2 _ (ev1.trans (.same (s1.trans sm))) (hr2.same sm) (lst_rep hr2 hD eD rep)
  · cases e3
def rSortD : List V → Hp → VK → Prop := fun xs H Q => ∃ a ws names, xs = [.ref a] ∧ Rd H a (.dK ws) ∧ ws.map (·.1) = names.map Sum.inr ∧ ws.length < 64 ∧ ∀ l H', Same H H' → H l = none → H' l = some (.lst ((sortS names).map V.str)) → Q (.ref l) H'
theorem call_sortD (hc : X.calm = true) : CallR X (.builtin "sorted") rSortD := by
  intro pins s σ H xs us Q I r h
  obtain ⟨a, ws, names, rfl, ha, hn, h64, q⟩ := h
  obtain ⟨u, rfl, ru⟩ := vals1 r
  obtain rfl : u = Value.ref a := ru
  obtain ⟨z, hd, vs, rel, dd⟩ := dk_rd I.hok ha
  obtain ⟨ep, da⟩ := dd.dictAt
  have hlw : ws.length = vs.length := KV.length rel
  have hkn : vs.map (·.1) = names.map Sum.inr := by rw [← KV.keys rel]; exact hn
  have hln : ws.length = names.length := by simpa using congrArg List.length hn
  refine ZT.sorted_dict (kvs := vs) (ep := ep) (names := names) (I.ok.hd hc) hd da hkn (by rw [← hlw]; exact h64) fun h' tk D out ss' c hk hD h2 h3 h4 hg => ?_
  have ens : ss' = sortS names := perm_eq leS_anti (h3.trans (List.mergeSort_perm names leS).symm) (pw_sortedS h4) (sortS_pw names)
  subst ens
  have hDn := I.none_at hD
  refine ⟨.ref D, upd H D (.lst ((sortS names).map V.str)), I.laids hk (same_new hDn _) fun b u e => ?_, rfl, q D _ (same_new hDn _) hDn upd_same⟩
  by_cases hb : b = D
  · subst hb
    rw [upd_same] at e
    cases e
    refine .inr ⟨hD, ⟨?_, out.toList, c, vals_strsM h2, by simpa using hg⟩⟩
    rw [List.length_map, sizeLine_eq]
    have := (List.mergeSort_perm names leS).length_eq
    show (names.mergeSort leS).length ≤ _
    omega
  · rw [upd_ne hb] at e; exact .inl e
def bSortD (xs : List M) (h : HpM) : Option M := match xs with
  | [x] => (dctOf h x).bind fun kvs => (namesM kvs).bind fun names => if kvs.length < 64 then some (.lst ((sortS names).map .str)) else none
  | _ => none
theorem fm_sortD : CallM K rSortD bSortD := by
  intro α h H xs d us Q hr rs e k
  unfold bSortD at e
  split at e
  · obtain ⟨u, rfl, ru⟩ := rep1 rs
    obtain ⟨kvs, e1, e⟩ := Option.bind_eq_some_iff.mp e
    obtain ⟨names, e2, e⟩ := Option.bind_eq_some_iff.mp e
    split at e
    · rename_i h64
      cases e
      obtain ⟨a, ws, rfl, ha, r1, r2⟩ := dctOf_rep hr ru e1
      refine ⟨a, ws, names, rfl, ha, by rw [r1]; exact namesM_eq e2, by rw [RepD.len (K := K) ⟨r1, r2⟩]; exact h64, fun l H' sm hl hD => k H' _ sm ?_⟩
      exact lst_rep hr hl hD RepAs.strs
    · cases e
  · cases e
end
end L2
set_option Elab.async false
set_option linter.all false
set_option maxRecDepth 100000
namespace L2
open PySem PySem.Spec PyProof.Rows
section
variable {X : Cx} {K : PySem.W.Frag}
def isD (x : M) (h : HpM) : Bool := (dctOf h x).isSome
theorem isD_ty {α : Pl} {h : HpM} {H : Hp} {x : M} {v : V} (hr : Rl K α h H) (r : RepA K α H x v) (e : isD x h = true) : tyV K "dict" v H := by
  obtain ⟨kvs, e1⟩ := Option.isSome_iff_exists.mp e
  obtain ⟨a, ws, rfl, ha, _⟩ := dctOf_rep hr r e1
  exact .inr (.inr (.inl ⟨rfl, .inl ⟨ws, ha⟩⟩))
def rDGet : V → List V → Hp → VK → Prop := fun x xs H Q => ∃ a ws k y, x = .ref a ∧ xs = [kV k, y] ∧ Rd H a (.dK ws) ∧ Q ((valV ws k).getD y) H
theorem mt_dget (hu : X.A.units + 1 < cLine) : MtR X "dict.get" rDGet := by
  intro pins s σ H x xs v us Q I rx rs h
  obtain ⟨a, ws, k, y, rfl, rfl, ha, q⟩ := h
  obtain ⟨u, w, rfl, ru, rw'⟩ := vals2 rs
  obtain rfl : v = Value.ref a := rx
  exact d_get2 hu I (.inl ⟨ws, k, ha, rfl, rfl⟩) ru rw' fun w' s' I' rw' => ⟨_, H, I', rw', q⟩
def mDGet (x : M) (xs : List M) (h : HpM) : Option (M × HpM) := match xs with
  | [y, z] => (keyM y).bind fun k => (dctOf h x).map fun kvs => ((valM kvs k).getD z, h)
  | _ => none
theorem fm_dget : MtA K rDGet mDGet := by
  intro α h h' H x xs d u us Q hr rx rs e k
  unfold mDGet at e
  split at e
  · obtain ⟨key, e1, e⟩ := Option.bind_eq_some_iff.mp e
    obtain ⟨kvs, e2, e3⟩ := Option.map_eq_some_iff.mp e
    cases e3
    obtain ⟨v, w, rfl, rv, rw'⟩ := rep2 rs
    obtain ⟨a, ws, rfl, ha, r1, r2⟩ := dctOf_rep hr rx e2
    cases (keyM_rep e1 rv)
    refine ⟨a, ws, key, w, rfl, rfl, ha, k α H _ .refl hr ?_⟩
    have q := valM_rep key r1 r2
    cases em : valM kvs key with
    | none =>
      have : valV ws key = none := by
        have := q.1
        rw [em] at this
        cases ev : valV ws key with
        | none => rfl
        | some _ => rw [ev] at this; cases this
      rw [this]; exact rw'
    | some m =>
      obtain ⟨v, hv, rv⟩ := q.2 m em
      rw [hv]; exact rv
  · cases e
end
end L2
namespace L2
open PySem PySem.Spec PyProof.Rows
theorem hu1 {A : Around} {k : Nat} (hr : Room k A) : A.units + 1 < cLine := Nat.lt_of_le_of_lt (Nat.add_le_add_left (by decide) _) (hu151 hr)
end L2
set_option Elab.async false
set_option linter.all false
set_option maxRecDepth 100000
namespace L2
open PySem
theorem e_oInt {i : Int} {ρ : EnvM} {h : HpM} {O : Option Int → HpM → Prop} (q : O (some i) h) : Ens (oSome (mC (.int i)) ρ h) O := ⟨_, _, rfl, q⟩
theorem len_ok {xs : List M} {P : Prop} (h : xs.length ≤ 16777216) (q : P) : xs.length ≤ 16777216 ∧ P := ⟨h, q⟩
theorem p_tn {R : M → Prop} {h : HpM} {xs : List M} {j : Nat} {x : M} (e : xs[j]? = some x) (q : R x) : Enp (ixM (.tup xs) (.int (j : Int)) h) R := ⟨x, by show atI xs (j : Int) = _; rw [atI_nat e], q⟩
theorem p_t0 {R : M → Prop} {h : HpM} {a : M} {ps : List M} (q : R a) : Enp (ixM (.tup (a :: ps)) (.int 0) h) R := p_tn (j := 0) rfl q
theorem p_t1 {R : M → Prop} {h : HpM} {a b : M} {ps : List M} (q : R b) : Enp (ixM (.tup (a :: b :: ps)) (.int 1) h) R := p_tn (j := 1) rfl q
theorem p_t2 {R : M → Prop} {h : HpM} {a b c : M} {ps : List M} (q : R c) : Enp (ixM (.tup (a :: b :: c :: ps)) (.int 2) h) R := p_tn (j := 2) rfl q
theorem p_ln {R : M → Prop} {h : HpM} {xs : List M} {j : Nat} {x : M} (e : xs[j]? = some x) (q : R x) : Enp (ixM (.lst xs) (.int (j : Int)) h) R := ⟨x, by show atI xs (j : Int) = _; rw [atI_nat e], q⟩
theorem p_l0 {R : M → Prop} {h : HpM} {a : M} {ps : List M} (q : R a) : Enp (ixM (.lst (a :: ps)) (.int 0) h) R := p_ln (j := 0) rfl q
theorem p_any {R : M → Prop} {h : HpM} {xs : List M} {r : Int} (h0 : 0 ≤ r) (h1 : r < xs.length) (q : ∀ x ∈ xs, R x) : Enp (ixM (.lst xs) (.int r) h) R := by
  obtain ⟨j, rfl⟩ := Int.eq_ofNat_of_zero_le h0
  have hj : j < xs.length := by omega
  refine ⟨xs[j], ?_, q _ (List.getElem_mem hj)⟩
  show atI xs (j : Int) = _
  rw [atI_nat (List.getElem?_eq_getElem hj)]
theorem p_anyS {R : M → Prop} {h : HpM} {z : Str} {r : Int} (hl : z.length ≤ 16777216) (h0 : 0 ≤ r) (h1 : r < (z.cps.toList.length : Int)) (q : ∀ c ∈ z.cps.toList, R (.str ⟨#[c]⟩)) : Enp (ixM (.str z) (.int r) h) R := by
  obtain ⟨j, rfl⟩ := Int.eq_ofNat_of_zero_le h0
  have hj : j < z.cps.toList.length := by omega
  exact p_ixS hl (atI_nat (List.getElem?_eq_getElem hj)) (q _ (List.getElem_mem hj))
theorem set1 {g : HpM} {o o' : MO} {k : Nat} (e : k = g.length) : (g ++ [o]).set k o' = g ++ [o'] := by subst e; simp
theorem dctOf_dct {h : HpM} {kvs : List (Key × M)} : dctOf h (dctM kvs) = some kvs := by
  show (if (kvs.map (·.1)).length = (kvs.map (·.2)).length then some ((kvs.map (·.1)).zip (kvs.map (·.2))) else none) = _
  rw [if_pos (by simp)]
  congr 1
  induction kvs with
  | nil => rfl
  | cons kv kvs ih => rw [List.map_cons, List.map_cons, List.zip_cons_cons, ih]
theorem isD_dct {h : HpM} {kvs : List (Key × M)} : isD (dctM kvs) h = true := by unfold isD; rw [dctOf_dct]; rfl
theorem p_lenD {R : M → Prop} {h : HpM} {kvs : List (Key × M)} (q : R (.int kvs.length)) : Enp (bLen [dctM kvs] h) R := ⟨.int (kvs.map (·.1)).length, rfl, by rw [List.length_map]; exact q⟩
theorem e_filt {xs : List M} {g : FG} {c : FT} {e : FE} {τ : EnvM} {h : HpM} {V : List M → HpM → Prop} (p : M → Bool) (f : M → M)
    (hs : ∀ x ∈ xs, Ens (g x τ h) fun τ' h1 => h1 = h ∧ Ens (c τ' h1) fun t h2 => h2 = h ∧ t = p x ∧ (t = true → Ens (e τ' h2) fun y h3 => h3 = h ∧ y = f x)) (q : V ((xs.filter p).map f) h) : Ens (mComps xs none g c e τ xs h) V := by
  refine e_over2 (fun i acc h' => h' = h ∧ acc = ((xs.take i).filter p).map f) ⟨rfl, by simp⟩ ?_ ?_
  · rintro i x acc h' hx ⟨rfl, rfl⟩
    have ht : xs.take (i + 1) = xs.take i ++ [x] := take_succ' hx
    refine (hs x (List.mem_of_getElem? hx)).mono ?_
    rintro τ' h1 ⟨rfl, z⟩
    refine z.mono ?_
    rintro t h2 ⟨rfl, rfl, z⟩
    refine ite_b (fun hp => ?_) (fun hp => ?_)
    · refine (z hp).mono ?_
      rintro y h3 ⟨rfl, rfl⟩
      exact ⟨rfl, by rw [ht, List.filter_append, List.map_append]; simp [hp]⟩
    · exact ⟨rfl, by rw [ht, List.filter_append]; simp [hp]⟩
  · rintro acc h' ⟨rfl, rfl⟩
    rw [List.take_length]; exact q
theorem e_newDH {ρ : EnvM} {h : HpM} {R : M → HpM → Prop} (q : R (.ref h.length) (h ++ [.dct []])) : Ens (mNewDH ρ h) R := ⟨_, _, rfl, q⟩
theorem e_dput {md mi mv : FE} {ρ : EnvM} {h : HpM} {S : Out → HpM → Prop} (q : Ens (mv ρ h) fun v h1 => Ens (md ρ h1) fun x h2 => Ens (mi ρ h2) fun y h3 => ∃ k key kvs, x = .ref k ∧ keyM y = some key ∧ h3[k]? = some (.dct kvs) ∧ kvs.length < 16777216 ∧ S (.nx ρ) (h3.set k (.dct (putM kvs key v)))) :
    Ens (sDput md mi mv ρ h) S := .bnd (q.mono fun v h1 q => .bnd (q.mono fun x h2 q => .bnd (q.mono fun y h3 q => by
  obtain ⟨k, key, kvs, rfl, e1, e2, hl, q⟩ := q
  refine ⟨.nx ρ, _, ?_, q⟩
  unfold putO
  simp only [e1, e2]
  rw [if_pos hl]; rfl)))
theorem e_dget {x y z : M} {h : HpM} {kvs : List (Key × M)} {key : Key} {R : M → HpM → Prop} (e1 : keyM y = some key) (e2 : dctOf h x = some kvs) (q : R ((valM kvs key).getD z) h) : Ens (mDGet x [y, z] h) R := ⟨_, _, by
  show (keyM y).bind _ = _
  rw [e1, Option.bind_some, e2]
  rfl, q⟩
theorem p_ixD {x y v : M} {h : HpM} {kvs : List (Key × M)} {key : Key} {R : M → Prop} (e1 : keyM y = some key) (e2 : dctOf h x = some kvs) (e3 : valM kvs key = some v) (q : R v) : Enp (ixM x y h) R := ⟨v, by
  unfold ixM
  rw [e2]
  show (keyM y).bind _ = _
  rw [e1]; exact e3, q⟩
theorem p_inD {x y : M} {h : HpM} {kvs : List (Key × M)} {key : Key} {R : M → Prop} (e1 : keyM x = some key) (e2 : dctOf h y = some kvs) (q : R (.bl (valM kvs key).isSome)) : Enp (opIn x y h) R := ⟨_, by
  unfold opIn
  rw [e2]
  show (keyM x).map _ = _
  rw [e1]; rfl, q⟩
theorem p_notInD {x y : M} {h : HpM} {kvs : List (Key × M)} {key : Key} {R : M → Prop} (e1 : keyM x = some key) (e2 : dctOf h y = some kvs) (q : R (.bl (!(valM kvs key).isSome))) : Enp (opNotIn x y h) R := ⟨_, by
  unfold opNotIn
  rw [e2]
  show (keyM x).map _ = _
  rw [e1]; rfl, q⟩
theorem p_sortItems {x : M} {h : HpM} {kvs : List (Key × M)} {names : List Str} {R : M → Prop} (e : dctOf h x = some kvs) (e2 : namesM kvs = some names) (hl : kvs.length < 64) (q : R (.lst (sortP kvs names))) : Enp (opSortItems x h) R := ⟨_, by
  unfold opSortItems
  rw [e, Option.bind_some, e2, Option.bind_some, if_pos hl], q⟩
theorem p_sortD {x : M} {h : HpM} {kvs : List (Key × M)} {names : List Str} {R : M → Prop} (e : dctOf h x = some kvs) (e2 : namesM kvs = some names) (hl : kvs.length < 64) (q : R (.lst ((sortS names).map .str))) : Enp (bSortD [x] h) R := ⟨_, by
  show (dctOf h x).bind _ = _
  rw [e, Option.bind_some, e2, Option.bind_some, if_pos hl], q⟩
mutual
theorem pu_res : ∀ {k : Nat} {x : M} (f : Nat → Option M), Pu k x → resB f x = some x
  | k, .non, f, _ => rfl
  | k, .bl _, f, _ => rfl
  | k, .int _, f, _ => rfl
  | k, .str _, f, _ => rfl
  | 0, .tup _, f, p => by cases p
  | 0, .lst _, f, p => by cases p
  | k + 1, .tup xs, f, p => by
    show (resBs f xs).map M.tup = _
    rw [pus_res f p.un]; rfl
  | k + 1, .lst xs, f, p => by
    show (resBs f xs).map M.lst = _
    rw [pus_res f p.unL]; rfl
  | 0, .dct _ _, f, p => by cases p
  | 0, .ref _, f, p => by cases p
  | 0, .scr _, f, p => by cases p
  | 0, .ty _, f, p => by cases p
  | k + 1, .dct _ _, f, p => by cases p
  | k + 1, .ref _, f, p => by cases p
  | k + 1, .scr _, f, p => by cases p
  | k + 1, .ty _, f, p => by cases p
theorem pus_res : ∀ {k : Nat} {xs : List M} (f : Nat → Option M), (∀ y ∈ xs, Pu k y) → resBs f xs = some xs
  | k, [], f, _ => rfl
  | k, y :: ys, f, hy => by
    unfold resBs
    rw [pu_res f (hy y List.mem_cons_self), Option.bind_some, pus_res f fun z hz => hy z (List.mem_cons_of_mem _ hz)]; rfl
end
def PuO (o : MO) : Prop := (∃ xs k, o = .lst xs ∧ ∀ y ∈ xs, Pu k y) ∨ ∃ kvs k, o = .dct kvs ∧ ∀ kv ∈ kvs, Pu k kv.2
theorem zip_self : ∀ (kvs : List (Key × M)), (kvs.map (·.1)).zip (kvs.map (·.2)) = kvs
  | [] => rfl
  | kv :: kvs => by rw [List.map_cons, List.map_cons, List.zip_cons_cons, zip_self kvs]
theorem puO_res {f : Nat → Option M} {o : MO} (p : PuO o) : resO f o = some o := by
  rcases p with ⟨xs, k, rfl, h⟩ | ⟨kvs, k, rfl, h⟩
  · show (resBs f xs).map MO.lst = _
    rw [pus_res f h]; rfl
  · show (resBs f (kvs.map (·.2))).map _ = _
    rw [pus_res (k := k) f (by intro y hy; obtain ⟨kv, hk, rfl⟩ := List.mem_map.mp hy; exact h kv hk)]
    show some (MO.dct ((kvs.map (·.1)).zip (kvs.map (·.2)))) = _
    rw [zip_self]
theorem puOs_res {f : Nat → Option M} : ∀ {g : HpM}, (∀ o ∈ g, PuO o) → resOs f g = some g
  | [], _ => rfl
  | o :: g, h => by
    show (resO f o).bind (fun p => (resOs f g).map (p :: ·)) = _
    rw [puO_res (h o List.mem_cons_self), Option.bind_some, puOs_res fun o ho => h o (List.mem_cons_of_mem _ ho)]; rfl
theorem e_shutD {f : FF} {ds : List M} {g : HpM} {R : M → HpM → Prop} (q : Ens (f ds g) fun d h1 => ∃ g' t kvs k n, h1 = g' ++ t ∧ g'.length = g.length ∧ (∀ o ∈ g', PuO o) ∧ d = .ref n ∧ g.length ≤ n ∧ h1[n]? = some (.dct kvs) ∧ (∀ kv ∈ kvs, Pu k kv.2) ∧ R (dctM kvs) g') : Ens (mSeal f ds g) R :=
  .bnd (q.mono fun d h1 q => by
    obtain ⟨g', t, kvs, k, n, rfl, hl, h3, rfl, hn, e, hp, r⟩ := q
    refine ⟨dctM kvs, g', ?_, r⟩
    have hn2 : n < (g' ++ t).length := (List.getElem?_eq_some_iff.mp e).1
    unfold shut
    rw [if_neg (by omega)]
    have e1 : lookR g.length (g' ++ t) (19 + 1) n = some (dctM kvs) := by
      show (if n < g.length then _ else _) = _
      rw [if_neg (by omega)]
      simp only [e]
      rw [pus_res (k := k) _ (by intro y hy; obtain ⟨kv, hk, rfl⟩ := List.mem_map.mp hy; exact hp kv hk)]; rfl
    show (lookR g.length (g' ++ t) (19 + 1) n).bind _ = _
    rw [e1, Option.bind_some, ← hl, List.take_left, puOs_res h3]; rfl)
theorem p_eqR {R : M → Prop} {h : HpM} {k : Nat} {x : M} (hx : Pu k x) (hk : k ≤ 150) (q : R (.bl true)) : Enp (opEq x x h) R := by
  obtain ⟨d, e, dd, _⟩ := hx.toD h
  refine ⟨.bl true, ?_, q⟩
  unfold opEq
  rw [e, Option.bind_some]
  show (if d.deep ≤ 150 then some (M.bl (deq d d)) else none) = _
  rw [if_pos (by omega), deq_refl]
theorem p_neR {R : M → Prop} {h : HpM} {k : Nat} {x : M} (hx : Pu k x) (hk : k ≤ 150) (q : R (.bl false)) : Enp (opNe x x h) R := by
  obtain ⟨d, e, dd, _⟩ := hx.toD h
  refine ⟨.bl false, ?_, q⟩
  unfold opNe
  rw [e, Option.bind_some]
  show (if d.deep ≤ 150 then some (M.bl (!deq d d)) else none) = _
  rw [if_pos (by omega), deq_refl]; rfl
theorem strsM_map : ∀ cs : List Str, strsM (cs.map M.str) = some cs
  | [] => rfl
  | c :: cs => by show (strsM (cs.map M.str)).map (c :: ·) = _; rw [strsM_map cs]; rfl
theorem e_join {z : Str} {cs : List Str} {h : HpM} {R : M → HpM → Prop} (e : (cs.map (·.length)).sum + cs.length * z.length ≤ 16777216) (q : R (.str (Txt.join z cs)) h) : Ens (mJoin (.str z) [.lst (cs.map M.str)] h) R := ⟨_, _, by
  show (strsM (cs.map M.str)).bind _ = _
  rw [strsM_map, Option.bind_some, if_pos e], q⟩
theorem join_cps {z : Str} (hz : z.cps = #[]) (cs : List Str) : (Txt.join z cs).cps.toList = (cs.map fun c => c.cps.toList).flatten := by
  have key : ∀ (ps : List Str) (acc : Array Nat), (ps.foldl (fun acc p => acc ++ z.cps ++ p.cps) acc).toList = acc.toList ++ (ps.map fun c => c.cps.toList).flatten := by
    intro ps
    induction ps with
    | nil => intro acc; simp
    | cons p ps ih => intro acc; rw [List.foldl_cons, ih, hz]; simp
  cases cs with
  | nil => rfl
  | cons c cs =>
    show (cs.foldl (fun acc p => acc ++ z.cps ++ p.cps) c.cps).toList = _
    rw [key]; rfl
end L2
set_option Elab.async false
set_option linter.all false
set_option maxRecDepth 100000
namespace L2
open PySem PySem.Spec PyProof.Rows
section
variable {X : Cx} {K : PySem.W.Frag} {pins : List (Addr × Obj)} {σ : St} {H : Hp} {s : Shared}
theorem count_eOfK (I : Inv X pins σ H s) {d : D} : ∀ {ds : List D} {xs : List V} {us : List Value}, Vals xs us → RepKs X.K H ds xs → us.countP (eOfK X.K H d) = ds.countP fun e => deq e d
  | [], xs, us, r, h => by cases (show xs = [] from h); cases r; rfl
  | e :: ds, xs, us, r, h => by
    obtain ⟨x, xr, rfl, h1, h2⟩ := h
    cases r with
    | cons r1 r2 => rw [List.countP_cons, List.countP_cons, eOfK_eq I r1 h1, count_eOfK I r2 h2]
def rCount (K : PySem.W.Frag) : V → List V → Hp → VK → Prop := fun x vs H Q => ∃ (p : Addr) (xs : List V) (y : V) (ds : List D) (d : D), x = .ref p ∧ vs = [y] ∧ SqL K H p xs ∧ RepKs K H ds xs ∧ RepK K H d y ∧ D.deeps ds ≤ 150 ∧ Q (.int (ds.countP fun e => deq e d : Nat)) H
theorem mt_countM (hu : X.A.units + 151 < cLine) : MtR X "list.count" (rCount X.K) := by
  intro pins s σ H x vs v us Q I rx rv h
  obtain ⟨p, xs, y, ds, d, rfl, rfl, hq, hs, hy, hd, q⟩ := h
  obtain rfl : v = Value.ref p := rx
  obtain ⟨u, rfl, ru⟩ := vals1 rv
  have hu' : X.A.in1.units + 150 < cLine := by show X.A.units + 1 + 150 < cLine; omega
  obtain ⟨its, r, pl⟩ := I.lstK hq
  obtain ⟨⟨cls, dd, data, sl⟩, ho, hc, n, hda⟩ := id pl
  simp only at hc hda
  subst hc hda
  refine call_meets F.slot_list_count ⟨_, ho, rfl⟩ F.entry_list_count (F.args_list_count_2 _ _) (SeqAt.list_countAt p its.toArray n dd sl u (eOfK X.K H d)) ⟨ho, fun w hw => mem_eOfK I hu' ru hy r hs hd w (by simpa using hw), ⟨.int _, H, I.tok _, ⟨_, rfl⟩, ?_⟩⟩
  rw [show its.toArray.toList.countP (eOfK X.K H d) = its.countP (eOfK X.K H d) by simp, count_eOfK I r hs]
  exact q
def mCount (x : M) (xs : List M) (h : HpM) : Option (M × HpM) := match xs with
  | [y] => (seqR h x).bind fun ys => (toDs h ys).bind fun ds => (toD h y).bind fun d => if D.deeps ds ≤ 150 then some (.int (ds.countP fun e => deq e d : Nat), h) else none
  | _ => none
theorem fm_count : MtA K (rCount K) mCount := by
  intro α h h' H x xs d u us Q hr rx rs e k
  unfold mCount at e
  split at e
  · obtain ⟨ys, e1, e⟩ := Option.bind_eq_some_iff.mp e
    obtain ⟨ds, e2, e⟩ := Option.bind_eq_some_iff.mp e
    obtain ⟨dy, e3, e⟩ := Option.bind_eq_some_iff.mp e
    split at e
    · rename_i hd
      cases e
      obtain ⟨v, rfl, rv⟩ := rep1 rs
      obtain ⟨a, vs, rfl, sq, rys⟩ := seqR_rep hr rx e1
      exact ⟨a, vs, v, ds, dy, rfl, rfl, sq, toDs_rep hr e2 rys, toD_rep hr e3 rv, hd, k α H _ .refl hr rfl⟩
    · cases e
  · cases e
end
section
variable {R : M → Prop} {Q : M → HpM → Prop} {h : HpM}
theorem p_leS {i j : Str} (q : R (.bl (!decide (j.cps.toList < i.cps.toList)))) : Enp (opLe (.str i) (.str j) h) R := ⟨_, rfl, q⟩
theorem cut1 {α : M} {ps : List M} : cutM (α :: ps) (some 1) none = ps := cut_from (xs := α :: ps) (k := 1) (by simp)
theorem p_cut1 {w : M} {ps : List M} (q : R (.tup ps)) : Enp (slM (.tup (w :: ps)) (some 1) none h) R := ⟨_, by show some (M.tup (cutM (w :: ps) (some 1) none)) = _; rw [cut1], q⟩
theorem p_cutL1 {w : M} {ps : List M} (q : R (.lst ps)) : Enp (slM (.lst (w :: ps)) (some 1) none h) R := ⟨_, by show some (M.lst (cutM (w :: ps) (some 1) none)) = _; rw [cut1], q⟩
theorem any_bls {b : Bool} : ∀ (bs : List Bool), (bs.map D.bl).any (fun e => deq e (.bl b)) = bs.any (· == b)
  | [] => rfl
  | c :: bs => by rw [List.map_cons, List.any_cons, List.any_cons, any_bls bs]; simp [deq]
theorem toDs_bls' : ∀ (bs : List Bool), toDs h (bs.map M.bl) = some (bs.map D.bl)
  | [] => rfl
  | b :: bs => by
    show (toDB (lookD h 20) (M.bl b)).bind (fun d => (toDBs (lookD h 20) (bs.map M.bl)).map (d :: ·)) = _
    rw [show toDBs (lookD h 20) (bs.map M.bl) = some (bs.map D.bl) from toDs_bls' bs]; rfl
theorem deeps_bls' : ∀ (bs : List Bool), D.deeps (bs.map D.bl) = 0
  | [] => rfl
  | b :: bs => by rw [List.map_cons, D.deeps, deeps_bls' bs]; rfl
theorem anyD_bls {b : Bool} {bs : List Bool} {f : Bool → M} : anyD (.bl b) (bs.map M.bl) h f = some (f (bs.any (· == b))) := by
  unfold anyD
  rw [toDs_bls', Option.bind_some]
  show (some (D.bl b)).bind _ = _
  rw [Option.bind_some, if_pos (by rw [deeps_bls']; decide), any_bls]
theorem p_inBL {b : Bool} {bs : List Bool} (q : R (.bl (bs.any (· == b)))) : Enp (opIn (.bl b) (.lst (bs.map M.bl)) h) R := ⟨_, anyD_bls (f := fun b => .bl b), q⟩
theorem p_notInBL {b : Bool} {bs : List Bool} (q : R (.bl (!bs.any (· == b)))) : Enp (opNotIn (.bl b) (.lst (bs.map M.bl)) h) R := ⟨.bl (!bs.any (· == b)), anyD_bls (f := fun b => .bl (!b)), q⟩
theorem toDs_bls : ∀ (bs : List Bool), toDs h (bs.map M.bl) = some (bs.map D.bl)
  | [] => rfl
  | b :: bs => by
    show (toDB (lookD h 20) (M.bl b)).bind (fun d => (toDBs (lookD h 20) (bs.map M.bl)).map (d :: ·)) = _
    rw [show toDBs (lookD h 20) (bs.map M.bl) = some (bs.map D.bl) from toDs_bls bs]; rfl
theorem deeps_bls : ∀ (bs : List Bool), D.deeps (bs.map D.bl) = 0
  | [] => rfl
  | b :: bs => by rw [List.map_cons, D.deeps, deeps_bls bs]; rfl
theorem count_bls {b : Bool} : ∀ (bs : List Bool), (bs.map D.bl).countP (fun e => deq e (.bl b)) = bs.countP (· == b)
  | [] => rfl
  | c :: bs => by
    rw [List.map_cons, List.countP_cons, List.countP_cons, count_bls bs]
    simp [deq]
theorem e_countB {bs : List Bool} {b : Bool} (q : Q (.int (bs.countP (· == b) : Nat)) h) : Ens (mCount (.lst (bs.map M.bl)) [.bl b] h) Q := ⟨_, _, by
  show (toDs h (bs.map M.bl)).bind _ = _
  rw [toDs_bls, Option.bind_some]
  show (some (D.bl b)).bind _ = _
  rw [Option.bind_some, if_pos (by rw [deeps_bls]; decide), count_bls], q⟩
end
end L2

set_option Elab.async false
set_option linter.all false
set_option maxRecDepth 100000
set_option maxHeartbeats 4000000
namespace K06
open PySem L2
local macro_rules | `(tactic| walk_at "n") => `(tactic| exact ⟨by decide +kernel, by decide +kernel, by decide +kernel, by decide +kernel⟩)
def top (i : Nat) : Stmt := PySem.Challenge.pw_webstore_k06_whole_tests_together.main.body.getD i (.Pass ⟨0, 0, 0, 0⟩)
abbrev s_is_name : Stmt := top 2
abbrev s_is_number : Stmt := top 3
abbrev s_is_value : Stmt := top 4
abbrev s_same_sort : Stmt := top 5
abbrev s_before : Stmt := top 6
abbrev s_fields_told : Stmt := top 7
abbrev s_is_test : Stmt := top 9
abbrev s_fits : Stmt := top 10
abbrev s_holds : Stmt := top 11
abbrev s_compares : Stmt := top 12
abbrev s__law_hand : Stmt := top 14
abbrev s__law_draw : Stmt := top 15
abbrev s__law_word : Stmt := top 16
abbrev s__law_value : Stmt := top 17
abbrev s__law_fields : Stmt := top 18
abbrev s__law_test : Stmt := top 19
abbrev s__law_is_number : Stmt := top 20
abbrev s__law_of_value : Stmt := top 21
abbrev s__law_joined : Stmt := top 22
abbrev s_law : Stmt := top 23
theorem sc_is_name : FnScope ["thing"] ["thing"] (defScope s_is_name) := ⟨rfl, rfl, rfl, by decide +kernel, rfl, by decide +kernel, by decide +kernel⟩
theorem sc_is_number : FnScope ["thing"] ["thing"] (defScope s_is_number) := ⟨rfl, rfl, rfl, by decide +kernel, rfl, by decide +kernel, by decide +kernel⟩
theorem sc_is_value : FnScope ["thing"] ["thing"] (defScope s_is_value) := ⟨rfl, rfl, rfl, by decide +kernel, rfl, by decide +kernel, by decide +kernel⟩
theorem sc_same_sort : FnScope ["one", "other"] ["one", "other"] (defScope s_same_sort) := ⟨rfl, rfl, rfl, by decide +kernel, rfl, by decide +kernel, by decide +kernel⟩
theorem sc_before : FnScope ["one", "other"] ["one", "other"] (defScope s_before) := ⟨rfl, rfl, rfl, by decide +kernel, rfl, by decide +kernel, by decide +kernel⟩
theorem sc_fields_told : FnScope ["fields"] ["fields"] (defScope s_fields_told) := ⟨rfl, rfl, rfl, by decide +kernel, rfl, by decide +kernel, by decide +kernel⟩
theorem sc_is_test : FnScope ["thing", "word", "parts"] ["thing"] (defScope s_is_test) := ⟨rfl, rfl, rfl, by decide +kernel, rfl, by decide +kernel, by decide +kernel⟩
theorem sc_fits : FnScope ["test", "fields"] ["test", "fields"] (defScope s_fits) := ⟨rfl, rfl, rfl, by decide +kernel, rfl, by decide +kernel, by decide +kernel⟩
theorem sc_holds : FnScope ["test", "held", "word"] ["test", "held"] (defScope s_holds) := ⟨rfl, rfl, rfl, by decide +kernel, rfl, by decide +kernel, by decide +kernel⟩
theorem sc_compares : FnScope ["word", "value", "bound"] ["word", "value", "bound"] (defScope s_compares) := ⟨rfl, rfl, rfl, by decide +kernel, rfl, by decide +kernel, by decide +kernel⟩
theorem sc__law_hand : FnScope ["_law_script"] ["_law_script"] (defScope s__law_hand) := ⟨rfl, rfl, rfl, by decide +kernel, rfl, by decide +kernel, by decide +kernel⟩
theorem sc__law_draw : FnScope ["_law_hand_here", "_law_many", "_law_cell", "_law_once", "_law_twice", "_law_found"] ["_law_hand_here", "_law_many"] (defScope s__law_draw) := ⟨rfl, rfl, rfl, by decide +kernel, rfl, by decide +kernel, by decide +kernel⟩
theorem sc__law_word : FnScope ["_law_hand_here", "_law_some"] ["_law_hand_here"] (defScope s__law_word) := ⟨rfl, rfl, rfl, by decide +kernel, rfl, by decide +kernel, by decide +kernel⟩
theorem sc__law_value : FnScope ["_law_hand_here", "_law_far", "_law_texts", "_law_some"] ["_law_hand_here"] (defScope s__law_value) := ⟨rfl, rfl, rfl, by decide +kernel, rfl, by decide +kernel, by decide +kernel⟩
theorem sc__law_fields : FnScope ["_law_hand_here", "_law_most", "_law_fields_here", "_law_k"] ["_law_hand_here", "_law_most"] (defScope s__law_fields) := ⟨rfl, rfl, rfl, by decide +kernel, rfl, by decide +kernel, by decide +kernel⟩
theorem sc__law_test : FnScope ["_law_hand_here", "_law_deep", "_law_way"] ["_law_hand_here", "_law_deep"] (defScope s__law_test) := ⟨rfl, rfl, rfl, by decide +kernel, rfl, by decide +kernel, by decide +kernel⟩
theorem sc__law_is_number : FnScope ["_law_thing"] ["_law_thing"] (defScope s__law_is_number) := ⟨rfl, rfl, rfl, by decide +kernel, rfl, by decide +kernel, by decide +kernel⟩
theorem sc__law_of_value : FnScope ["_law_fields_here", "_law_name", "_law_value_here", "_law_signs", "_law_alike", "_law_held"] ["_law_fields_here", "_law_name", "_law_value_here"] (defScope s__law_of_value) := ⟨rfl, rfl, rfl, by decide +kernel, rfl, by decide +kernel, by decide +kernel⟩
theorem sc__law_joined : FnScope ["_law_word_here", "_law_tests", "_law_made", "_law_k", "_law_test_here"] ["_law_word_here", "_law_tests"] (defScope s__law_joined) := ⟨rfl, rfl, rfl, by decide +kernel, rfl, by decide +kernel, by decide +kernel⟩
theorem sc_law : FnScope ["_law_script", "_law_hand_here", "_law_turn", "_law_fields_here", "_law_name", "_law_value_here", "_law_one", "_law_other", "_law_pairs", "_law_nots", "_law_no", "_law_neither", "_law_chain", "_law_found"] ["_law_script"] (defScope s_law) := ⟨rfl, rfl, rfl, by decide +kernel, rfl, by decide +kernel, by decide +kernel⟩
theorem q3 : NmOk (defScope s_is_name) "LONGEST_NAME" .globalImplicit := (by walk_at "n")
theorem q1 : NmOk (defScope s_is_name) "all" .globalImplicit := (by walk_at "n")
theorem q5 : NmOk (defScope s_is_name) "isinstance" .globalImplicit := (by walk_at "n")
theorem q2 : NmOk (defScope s_is_name) "len" .globalImplicit := (by walk_at "n")
theorem q4 : NmOk (defScope s_is_name) "str" .globalImplicit := (by walk_at "n")
theorem q0 : NmOk (defScope s_is_name) "thing" .local := (by walk_at "n")
theorem q7 : NmOk (defScope s_is_number) "bool" .globalImplicit := (by walk_at "n")
theorem q9 : NmOk (defScope s_is_number) "int" .globalImplicit := (by walk_at "n")
theorem q8 : NmOk (defScope s_is_number) "isinstance" .globalImplicit := (by walk_at "n")
theorem q6 : NmOk (defScope s_is_number) "thing" .local := (by walk_at "n")
theorem q13 : NmOk (defScope s_is_value) "is_number" .globalImplicit := (by walk_at "n")
theorem q12 : NmOk (defScope s_is_value) "isinstance" .globalImplicit := (by walk_at "n")
theorem q11 : NmOk (defScope s_is_value) "str" .globalImplicit := (by walk_at "n")
theorem q10 : NmOk (defScope s_is_value) "thing" .local := (by walk_at "n")
theorem q16 : NmOk (defScope s_same_sort) "isinstance" .globalImplicit := (by walk_at "n")
theorem q14 : NmOk (defScope s_same_sort) "one" .local := (by walk_at "n")
theorem q17 : NmOk (defScope s_same_sort) "other" .local := (by walk_at "n")
theorem q15 : NmOk (defScope s_same_sort) "str" .globalImplicit := (by walk_at "n")
theorem q20 : NmOk (defScope s_before) "isinstance" .globalImplicit := (by walk_at "n")
theorem q21 : NmOk (defScope s_before) "one" .local := (by walk_at "n")
theorem q18 : NmOk (defScope s_before) "other" .local := (by walk_at "n")
theorem q22 : NmOk (defScope s_before) "same_sort" .globalImplicit := (by walk_at "n")
theorem q19 : NmOk (defScope s_before) "str" .globalImplicit := (by walk_at "n")
theorem q24 : NmOk (defScope s_fields_told) "dict" .globalImplicit := (by walk_at "n")
theorem q23 : NmOk (defScope s_fields_told) "fields" .local := (by walk_at "n")
theorem q25 : NmOk (defScope s_fields_told) "sorted" .globalImplicit := (by walk_at "n")
theorem q26 : NmOk (defScope s_fields_told) "tuple" .globalImplicit := (by walk_at "n")
theorem q32 : NmOk (defScope s_is_test) "is_name" .globalImplicit := (by walk_at "n")
theorem q28 : NmOk (defScope s_is_test) "is_test" .globalImplicit := (by walk_at "n")
theorem q31 : NmOk (defScope s_is_test) "is_value" .globalImplicit := (by walk_at "n")
theorem q35 : NmOk (defScope s_is_test) "isinstance" .globalImplicit := (by walk_at "n")
theorem q29 : NmOk (defScope s_is_test) "len" .globalImplicit := (by walk_at "n")
theorem q27 : NmOk (defScope s_is_test) "parts" .local := (by walk_at "n")
theorem q33 : NmOk (defScope s_is_test) "thing" .local := (by walk_at "n")
theorem q34 : NmOk (defScope s_is_test) "tuple" .globalImplicit := (by walk_at "n")
theorem q30 : NmOk (defScope s_is_test) "word" .local := (by walk_at "n")
theorem q38 : NmOk (defScope s_fits) "dict" .globalImplicit := (by walk_at "n")
theorem q37 : NmOk (defScope s_fits) "fields" .local := (by walk_at "n")
theorem q39 : NmOk (defScope s_fits) "holds" .globalImplicit := (by walk_at "n")
theorem q36 : NmOk (defScope s_fits) "test" .local := (by walk_at "n")
theorem q43 : NmOk (defScope s_holds) "compares" .globalImplicit := (by walk_at "n")
theorem q41 : NmOk (defScope s_holds) "held" .local := (by walk_at "n")
theorem q44 : NmOk (defScope s_holds) "holds" .globalImplicit := (by walk_at "n")
theorem q42 : NmOk (defScope s_holds) "test" .local := (by walk_at "n")
theorem q40 : NmOk (defScope s_holds) "word" .local := (by walk_at "n")
theorem q48 : NmOk (defScope s_compares) "before" .globalImplicit := (by walk_at "n")
theorem q47 : NmOk (defScope s_compares) "bound" .local := (by walk_at "n")
theorem q49 : NmOk (defScope s_compares) "same_sort" .globalImplicit := (by walk_at "n")
theorem q46 : NmOk (defScope s_compares) "value" .local := (by walk_at "n")
theorem q45 : NmOk (defScope s_compares) "word" .local := (by walk_at "n")
theorem q50 : NmOk (defScope s__law_hand) "_law_script" .local := (by walk_at "n")
theorem q54 : NmOk (defScope s__law_draw) "_law_cell" .local := (by walk_at "n")
theorem q51 : NmOk (defScope s__law_draw) "_law_found" .local := (by walk_at "n")
theorem q52 : NmOk (defScope s__law_draw) "_law_hand_here" .local := (by walk_at "n")
theorem q53 : NmOk (defScope s__law_draw) "_law_many" .local := (by walk_at "n")
theorem q57 : NmOk (defScope s__law_draw) "_law_once" .local := (by walk_at "n")
theorem q56 : NmOk (defScope s__law_draw) "_law_twice" .local := (by walk_at "n")
theorem q55 : NmOk (defScope s__law_draw) "len" .globalImplicit := (by walk_at "n")
theorem q59 : NmOk (defScope s__law_word) "_law_draw" .globalImplicit := (by walk_at "n")
theorem q58 : NmOk (defScope s__law_word) "_law_hand_here" .cell := (by walk_at "n")
theorem q61 : NmOk (defScope s__law_word) "_law_some" .local := (by walk_at "n")
theorem q60 : NmOk (defScope s__law_word) "range" .globalImplicit := (by walk_at "n")
theorem q64 : NmOk (defScope s__law_value) "_law_draw" .globalImplicit := (by walk_at "n")
theorem q65 : NmOk (defScope s__law_value) "_law_far" .local := (by walk_at "n")
theorem q63 : NmOk (defScope s__law_value) "_law_hand_here" .local := (by walk_at "n")
theorem q62 : NmOk (defScope s__law_value) "_law_some" .local := (by walk_at "n")
theorem q66 : NmOk (defScope s__law_value) "_law_texts" .local := (by walk_at "n")
theorem q70 : NmOk (defScope s__law_fields) "_law_draw" .globalImplicit := (by walk_at "n")
theorem q67 : NmOk (defScope s__law_fields) "_law_fields_here" .local := (by walk_at "n")
theorem q68 : NmOk (defScope s__law_fields) "_law_hand_here" .local := (by walk_at "n")
theorem q72 : NmOk (defScope s__law_fields) "_law_k" .local := (by walk_at "n")
theorem q69 : NmOk (defScope s__law_fields) "_law_most" .local := (by walk_at "n")
theorem q74 : NmOk (defScope s__law_fields) "_law_value" .globalImplicit := (by walk_at "n")
theorem q73 : NmOk (defScope s__law_fields) "_law_word" .globalImplicit := (by walk_at "n")
theorem q71 : NmOk (defScope s__law_fields) "range" .globalImplicit := (by walk_at "n")
theorem q77 : NmOk (defScope s__law_test) "_law_deep" .local := (by walk_at "n")
theorem q81 : NmOk (defScope s__law_test) "_law_draw" .globalImplicit := (by walk_at "n")
theorem q76 : NmOk (defScope s__law_test) "_law_hand_here" .local := (by walk_at "n")
theorem q78 : NmOk (defScope s__law_test) "_law_test" .globalImplicit := (by walk_at "n")
theorem q80 : NmOk (defScope s__law_test) "_law_value" .globalImplicit := (by walk_at "n")
theorem q75 : NmOk (defScope s__law_test) "_law_way" .local := (by walk_at "n")
theorem q79 : NmOk (defScope s__law_test) "_law_word" .globalImplicit := (by walk_at "n")
theorem q82 : NmOk (defScope s__law_is_number) "_law_thing" .local := (by walk_at "n")
theorem q83 : NmOk (defScope s__law_is_number) "bool" .globalImplicit := (by walk_at "n")
theorem q85 : NmOk (defScope s__law_is_number) "int" .globalImplicit := (by walk_at "n")
theorem q84 : NmOk (defScope s__law_is_number) "isinstance" .globalImplicit := (by walk_at "n")
theorem q92 : NmOk (defScope s__law_of_value) "_law_alike" .local := (by walk_at "n")
theorem q90 : NmOk (defScope s__law_of_value) "_law_fields_here" .cell := (by walk_at "n")
theorem q87 : NmOk (defScope s__law_of_value) "_law_held" .local := (by walk_at "n")
theorem q95 : NmOk (defScope s__law_of_value) "_law_is_number" .globalImplicit := (by walk_at "n")
theorem q91 : NmOk (defScope s__law_of_value) "_law_name" .cell := (by walk_at "n")
theorem q86 : NmOk (defScope s__law_of_value) "_law_signs" .local := (by walk_at "n")
theorem q88 : NmOk (defScope s__law_of_value) "_law_value_here" .cell := (by walk_at "n")
theorem q89 : NmOk (defScope s__law_of_value) "before" .globalImplicit := (by walk_at "n")
theorem q93 : NmOk (defScope s__law_of_value) "fits" .globalImplicit := (by walk_at "n")
theorem q94 : NmOk (defScope s__law_of_value) "int" .globalImplicit := (by walk_at "n")
theorem q100 : NmOk (defScope s__law_joined) "_law_k" .local := (by walk_at "n")
theorem q96 : NmOk (defScope s__law_joined) "_law_made" .local := (by walk_at "n")
theorem q99 : NmOk (defScope s__law_joined) "_law_test_here" .local := (by walk_at "n")
theorem q97 : NmOk (defScope s__law_joined) "_law_tests" .local := (by walk_at "n")
theorem q101 : NmOk (defScope s__law_joined) "_law_word_here" .local := (by walk_at "n")
theorem q98 : NmOk (defScope s__law_joined) "enumerate" .globalImplicit := (by walk_at "n")
theorem q106 : NmOk (defScope s_law) "_law_chain" .local := (by walk_at "n")
theorem q112 : NmOk (defScope s_law) "_law_draw" .globalImplicit := (by walk_at "n")
theorem q127 : NmOk (defScope s_law) "_law_fields" .globalImplicit := (by walk_at "n")
theorem q114 : NmOk (defScope s_law) "_law_fields_here" .cell := (by walk_at "n")
theorem q110 : NmOk (defScope s_law) "_law_found" .local := (by walk_at "n")
theorem q129 : NmOk (defScope s_law) "_law_hand" .globalImplicit := (by walk_at "n")
theorem q111 : NmOk (defScope s_law) "_law_hand_here" .cell := (by walk_at "n")
theorem q107 : NmOk (defScope s_law) "_law_joined" .globalImplicit := (by walk_at "n")
theorem q120 : NmOk (defScope s_law) "_law_name" .local := (by walk_at "n")
theorem q116 : NmOk (defScope s_law) "_law_neither" .local := (by walk_at "n")
theorem q115 : NmOk (defScope s_law) "_law_no" .local := (by walk_at "n")
theorem q117 : NmOk (defScope s_law) "_law_nots" .local := (by walk_at "n")
theorem q122 : NmOk (defScope s_law) "_law_of_value" .globalImplicit := (by walk_at "n")
theorem q104 : NmOk (defScope s_law) "_law_one" .local := (by walk_at "n")
theorem q113 : NmOk (defScope s_law) "_law_other" .local := (by walk_at "n")
theorem q108 : NmOk (defScope s_law) "_law_pairs" .cell := (by walk_at "n")
theorem q128 : NmOk (defScope s_law) "_law_script" .local := (by walk_at "n")
theorem q119 : NmOk (defScope s_law) "_law_test" .globalImplicit := (by walk_at "n")
theorem q103 : NmOk (defScope s_law) "_law_turn" .local := (by walk_at "n")
theorem q123 : NmOk (defScope s_law) "_law_value" .globalImplicit := (by walk_at "n")
theorem q121 : NmOk (defScope s_law) "_law_value_here" .local := (by walk_at "n")
theorem q125 : NmOk (defScope s_law) "_law_word" .globalImplicit := (by walk_at "n")
theorem q118 : NmOk (defScope s_law) "fields_told" .globalImplicit := (by walk_at "n")
theorem q109 : NmOk (defScope s_law) "fits" .globalImplicit := (by walk_at "n")
theorem q105 : NmOk (defScope s_law) "is_test" .globalImplicit := (by walk_at "n")
theorem q126 : NmOk (defScope s_law) "len" .globalImplicit := (by walk_at "n")
theorem q102 : NmOk (defScope s_law) "range" .globalImplicit := (by walk_at "n")
theorem q124 : NmOk (defScope s_law) "sorted" .globalImplicit := (by walk_at "n")
def k_LONGEST_NAME : M := .int 8
structure Adr where
 f_is_name : Addr
 d_is_name : FuncData
 f_is_number : Addr
 d_is_number : FuncData
 f_is_value : Addr
 d_is_value : FuncData
 f_same_sort : Addr
 d_same_sort : FuncData
 f_before : Addr
 d_before : FuncData
 f_fields_told : Addr
 d_fields_told : FuncData
 f_is_test : Addr
 d_is_test : FuncData
 f_fits : Addr
 d_fits : FuncData
 f_holds : Addr
 d_holds : FuncData
 f_compares : Addr
 d_compares : FuncData
 f__law_hand : Addr
 d__law_hand : FuncData
 f__law_draw : Addr
 d__law_draw : FuncData
 f__law_word : Addr
 d__law_word : FuncData
 f__law_value : Addr
 d__law_value : FuncData
 f__law_fields : Addr
 d__law_fields : FuncData
 f__law_test : Addr
 d__law_test : FuncData
 f__law_is_number : Addr
 d__law_is_number : FuncData
 f__law_of_value : Addr
 d__law_of_value : FuncData
 f__law_joined : Addr
 d__law_joined : FuncData
 f_law : Addr
 d_law : FuncData
 u_LONGEST_NAME : Value
structure Txt (K : PySem.W.Frag) (mg : Str → Option Value) (t : Adr) : Prop where
 F_is_name : Fun K "is_name" "is_name" s_is_name t.f_is_name t.d_is_name
 b_is_name : Binds K t.d_is_name ["thing"] []
 m_is_name : mg "is_name" = some (.ref t.f_is_name)
 F_is_number : Fun K "is_number" "is_number" s_is_number t.f_is_number t.d_is_number
 b_is_number : Binds K t.d_is_number ["thing"] []
 m_is_number : mg "is_number" = some (.ref t.f_is_number)
 F_is_value : Fun K "is_value" "is_value" s_is_value t.f_is_value t.d_is_value
 b_is_value : Binds K t.d_is_value ["thing"] []
 m_is_value : mg "is_value" = some (.ref t.f_is_value)
 F_same_sort : Fun K "same_sort" "same_sort" s_same_sort t.f_same_sort t.d_same_sort
 b_same_sort : Binds K t.d_same_sort ["one", "other"] []
 m_same_sort : mg "same_sort" = some (.ref t.f_same_sort)
 F_before : Fun K "before" "before" s_before t.f_before t.d_before
 b_before : Binds K t.d_before ["one", "other"] []
 m_before : mg "before" = some (.ref t.f_before)
 F_fields_told : Fun K "fields_told" "fields_told" s_fields_told t.f_fields_told t.d_fields_told
 b_fields_told : Binds K t.d_fields_told ["fields"] []
 m_fields_told : mg "fields_told" = some (.ref t.f_fields_told)
 F_is_test : Fun K "is_test" "is_test" s_is_test t.f_is_test t.d_is_test
 b_is_test : Binds K t.d_is_test ["thing"] []
 m_is_test : mg "is_test" = some (.ref t.f_is_test)
 F_fits : Fun K "fits" "fits" s_fits t.f_fits t.d_fits
 b_fits : Binds K t.d_fits ["test", "fields"] []
 m_fits : mg "fits" = some (.ref t.f_fits)
 F_holds : Fun K "holds" "holds" s_holds t.f_holds t.d_holds
 b_holds : Binds K t.d_holds ["test", "held"] []
 m_holds : mg "holds" = some (.ref t.f_holds)
 F_compares : Fun K "compares" "compares" s_compares t.f_compares t.d_compares
 b_compares : Binds K t.d_compares ["word", "value", "bound"] []
 m_compares : mg "compares" = some (.ref t.f_compares)
 F__law_hand : Fun K "_law_hand" "_law_hand" s__law_hand t.f__law_hand t.d__law_hand
 b__law_hand : Binds K t.d__law_hand ["_law_script"] []
 m__law_hand : mg "_law_hand" = some (.ref t.f__law_hand)
 F__law_draw : Fun K "_law_draw" "_law_draw" s__law_draw t.f__law_draw t.d__law_draw
 b__law_draw : Binds K t.d__law_draw ["_law_hand_here", "_law_many"] []
 m__law_draw : mg "_law_draw" = some (.ref t.f__law_draw)
 F__law_word : Fun K "_law_word" "_law_word" s__law_word t.f__law_word t.d__law_word
 b__law_word : Binds K t.d__law_word ["_law_hand_here"] []
 m__law_word : mg "_law_word" = some (.ref t.f__law_word)
 F__law_value : Fun K "_law_value" "_law_value" s__law_value t.f__law_value t.d__law_value
 b__law_value : Binds K t.d__law_value ["_law_hand_here"] []
 m__law_value : mg "_law_value" = some (.ref t.f__law_value)
 F__law_fields : Fun K "_law_fields" "_law_fields" s__law_fields t.f__law_fields t.d__law_fields
 b__law_fields : Binds K t.d__law_fields ["_law_hand_here", "_law_most"] []
 m__law_fields : mg "_law_fields" = some (.ref t.f__law_fields)
 F__law_test : Fun K "_law_test" "_law_test" s__law_test t.f__law_test t.d__law_test
 b__law_test : Binds K t.d__law_test ["_law_hand_here", "_law_deep"] []
 m__law_test : mg "_law_test" = some (.ref t.f__law_test)
 F__law_is_number : Fun K "_law_is_number" "_law_is_number" s__law_is_number t.f__law_is_number t.d__law_is_number
 b__law_is_number : Binds K t.d__law_is_number ["_law_thing"] []
 m__law_is_number : mg "_law_is_number" = some (.ref t.f__law_is_number)
 F__law_of_value : Fun K "_law_of_value" "_law_of_value" s__law_of_value t.f__law_of_value t.d__law_of_value
 b__law_of_value : Binds K t.d__law_of_value ["_law_fields_here", "_law_name", "_law_value_here"] []
 m__law_of_value : mg "_law_of_value" = some (.ref t.f__law_of_value)
 F__law_joined : Fun K "_law_joined" "_law_joined" s__law_joined t.f__law_joined t.d__law_joined
 b__law_joined : Binds K t.d__law_joined ["_law_word_here", "_law_tests"] []
 m__law_joined : mg "_law_joined" = some (.ref t.f__law_joined)
 F_law : Fun K "law" "law" s_law t.f_law t.d_law
 b_law : Binds K t.d_law ["_law_script"] []
 m_law : mg "law" = some (.ref t.f_law)
 z_abs : mg "abs" = none
 z_all : mg "all" = none
 z_bool : mg "bool" = none
 z_dict : mg "dict" = none
 z_enumerate : mg "enumerate" = none
 z_int : mg "int" = none
 z_isinstance : mg "isinstance" = none
 z_len : mg "len" = none
 z_range : mg "range" = none
 z_sorted : mg "sorted" = none
 z_str : mg "str" = none
 z_tuple : mg "tuple" = none
 c_LONGEST_NAME : mg "LONGEST_NAME" = some t.u_LONGEST_NAME
 r_LONGEST_NAME : ConstM K k_LONGEST_NAME t.u_LONGEST_NAME
noncomputable def b_is_name : FS :=
 (sSeq (sIf (tOrM (tNotM (tV (mCB bInst (mCons (mVar 0) (mCons (mC (.ty "str")) mNil))))) (tNotM (tV (mChain opLe opLe (mC (.int 1)) (mCB bLen (mCons (mVar 0) mNil)) (mC k_LONGEST_NAME))))) (sRet (mC (.bl false))) sNext)
 (sRet (mCB bAll (mCons (mComp [none] (iS (mVar 0)) (gNm 0) tTrueM (mChain opLe opLe (mC (.str "a")) (mVar 0) (mC (.str "z")))) mNil))))
noncomputable def m_is_name : FF := mFun 1 0 b_is_name
noncomputable def b_is_number : FS :=
 (sRet (mAnd (mCB bInst (mCons (mVar 0) (mCons (mC (.ty "int")) mNil))) (mNot (mCB bInst (mCons (mVar 0) (mCons (mC (.ty "bool")) mNil))))))
noncomputable def m_is_number : FF := mFun 1 0 b_is_number
noncomputable def b_is_value : FS :=
 (sRet (mOr (mCall m_is_number (mCons (mVar 0) mNil)) (mCB bInst (mCons (mVar 0) (mCons (mC (.ty "str")) mNil)))))
noncomputable def m_is_value : FF := mFun 1 0 b_is_value
noncomputable def b_same_sort : FS :=
 (sRet (mOp opEq (mCB bInst (mCons (mVar 0) (mCons (mC (.ty "str")) mNil))) (mCB bInst (mCons (mVar 1) (mCons (mC (.ty "str")) mNil)))))
noncomputable def m_same_sort : FF := mFun 2 0 b_same_sort
noncomputable def b_before : FS :=
 (sSeq (sIf (tV (mCall m_same_sort (mCons (mVar 0) (mCons (mVar 1) mNil)))) (sRet (mOp opLt (mVar 0) (mVar 1))) sNext)
 (sRet (mCB bInst (mCons (mVar 1) (mCons (mC (.ty "str")) mNil)))))
noncomputable def m_before : FF := mFun 2 0 b_before
noncomputable def b_fields_told : FS :=
 (sRet (mCB bTuple (mCons (mUn opSortItems (mCB bDict (mCons (mVar 0) mNil))) mNil)))
noncomputable def m_fields_told : FF := mFun 1 0 b_fields_told
noncomputable def b_is_test (rec : FF) : FS :=
 (sSeq (sIf (tOrM (tNotM (tV (mCB bInst (mCons (mVar 0) (mCons (mC (.ty "tuple")) mNil))))) (tV (mOp opEq (mCB bLen (mCons (mVar 0) mNil)) (mC (.int 0))))) (sRet (mC (.bl false))) sNext)
 (sSeq (sAsg (mOp ixM (mVar 0) (mC (.int 0))) (gNm 1))
 (sSeq (sAsg (mSl slM (mVar 0) (oSome (mC (.int 1))) oNo) (gNm 2))
 (sSeq (sIf (tV (mOp opEq (mVar 1) (mC (.str "any")))) (sRet (mOp opEq (mCB bLen (mCons (mVar 2) mNil)) (mC (.int 0)))) sNext)
 (sSeq (sIf (tV (mOp opEq (mVar 1) (mC (.str "has")))) (sRet (mAnd (mOp opEq (mCB bLen (mCons (mVar 2) mNil)) (mC (.int 1))) (mCall m_is_name (mCons (mOp ixM (mVar 2) (mC (.int 0))) mNil)))) sNext)
 (sSeq (sIf (tV (mOp opIn (mVar 1) (mTup (mCons (mC (.str "is")) (mCons (mC (.str "under")) (mCons (mC (.str "over")) mNil)))))) (sRet (mAnd (mOp opEq (mCB bLen (mCons (mVar 2) mNil)) (mC (.int 2))) (mAnd (mCall m_is_name (mCons (mOp ixM (mVar 2) (mC (.int 0))) mNil)) (mCall m_is_value (mCons (mOp ixM (mVar 2) (mC (.int 1))) mNil))))) sNext)
 (sSeq (sIf (tV (mOp opIn (mVar 1) (mTup (mCons (mC (.str "both")) (mCons (mC (.str "either")) mNil))))) (sRet (mAnd (mOp opEq (mCB bLen (mCons (mVar 2) mNil)) (mC (.int 2))) (mAnd (mCall rec (mCons (mOp ixM (mVar 2) (mC (.int 0))) mNil)) (mCall rec (mCons (mOp ixM (mVar 2) (mC (.int 1))) mNil))))) sNext)
 (sRet (mAnd (mOp opEq (mVar 1) (mC (.str "not"))) (mAnd (mOp opEq (mCB bLen (mCons (mVar 2) mNil)) (mC (.int 1))) (mCall rec (mCons (mOp ixM (mVar 2) (mC (.int 0))) mNil))))))))))))
noncomputable def m_is_test : Nat → FF
 | 0 => fun _ _ => none
 | n + 1 => mFun 1 2 (b_is_test (m_is_test n))
noncomputable def b_compares : FS :=
 (sSeq (sIf (tV (mOp opEq (mVar 0) (mC (.str "is")))) (sRet (mOp opEq (mVar 1) (mVar 2))) sNext)
 (sSeq (sIf (tNotM (tV (mCall m_same_sort (mCons (mVar 1) (mCons (mVar 2) mNil))))) (sRet (mC (.bl false))) sNext)
 (sRet (mIf (tV (mOp opEq (mVar 0) (mC (.str "under")))) (mCall m_before (mCons (mVar 1) (mCons (mVar 2) mNil))) (mCall m_before (mCons (mVar 2) (mCons (mVar 1) mNil)))))))
noncomputable def m_compares : FF := mFun 3 0 b_compares
noncomputable def b_holds (rec : FF) : FS :=
 (sSeq (sAsg (mOp ixM (mVar 0) (mC (.int 0))) (gNm 2))
 (sSeq (sIf (tV (mOp opEq (mVar 2) (mC (.str "any")))) (sRet (mC (.bl true))) sNext)
 (sSeq (sIf (tV (mOp opEq (mVar 2) (mC (.str "both")))) (sRet (mAnd (mCall rec (mCons (mOp ixM (mVar 0) (mC (.int 1))) (mCons (mVar 1) mNil))) (mCall rec (mCons (mOp ixM (mVar 0) (mC (.int 2))) (mCons (mVar 1) mNil))))) sNext)
 (sSeq (sIf (tV (mOp opEq (mVar 2) (mC (.str "either")))) (sRet (mOr (mCall rec (mCons (mOp ixM (mVar 0) (mC (.int 1))) (mCons (mVar 1) mNil))) (mCall rec (mCons (mOp ixM (mVar 0) (mC (.int 2))) (mCons (mVar 1) mNil))))) sNext)
 (sSeq (sIf (tV (mOp opEq (mVar 2) (mC (.str "not")))) (sRet (mNot (mCall rec (mCons (mOp ixM (mVar 0) (mC (.int 1))) (mCons (mVar 1) mNil))))) sNext)
 (sSeq (sIf (tV (mOp opNotIn (mOp ixM (mVar 0) (mC (.int 1))) (mVar 1))) (sRet (mC (.bl false))) sNext)
 (sRet (mOr (mOp opEq (mVar 2) (mC (.str "has"))) (mCall m_compares (mCons (mVar 2) (mCons (mOp ixM (mVar 1) (mOp ixM (mVar 0) (mC (.int 1)))) (mCons (mOp ixM (mVar 0) (mC (.int 2))) mNil))))))))))))
noncomputable def m_holds : Nat → FF
 | 0 => fun _ _ => none
 | n + 1 => mFun 2 1 (b_holds (m_holds n))
noncomputable def b_fits : FS :=
 (sRet (mCall (m_holds 14) (mCons (mVar 0) (mCons (mCB bDict (mCons (mVar 1) mNil)) mNil))))
noncomputable def m_fits : FF := mFun 2 0 b_fits
noncomputable def b__law_hand : FS :=
 (sRet (mLstH (mCons (mComp [none] (iL (mSl slM (mVar 0) oNo (oSome (mC (.int 63))))) (gNm 0) tTrueM (mCB bAbs (mCons (mVar 0) mNil))) (mCons (mC (.int 0)) (mCons (mC (.int 0)) (mCons (mC (.int 0)) mNil))))))
noncomputable def m__law_hand : FF := mFun 1 0 b__law_hand
noncomputable def b__law_draw : FS :=
 (sSeq (sAsg (mOp opAdd (mOp ixM (mVar 0) (mC (.int 3))) (mC (.int 1))) (gSubM (mVar 0) (mC (.int 3))))
 (sSeq (sIf (tV (mOp opEq (mOp ixM (mVar 0) (mC (.int 2))) (mC (.int 0)))) (sSeq (sAsg (mC (.int 0)) (gNm 2))
 (sSeq (sIf (tV (mOp opGt (mCB bLen (mCons (mOp ixM (mVar 0) (mC (.int 0))) mNil)) (mC (.int 0)))) (sAsg (mOp ixM (mOp ixM (mVar 0) (mC (.int 0))) (mOp opMod (mOp ixM (mVar 0) (mC (.int 1))) (mCB bLen (mCons (mOp ixM (mVar 0) (mC (.int 0))) mNil)))) (gNm 2)) sNext)
 (sSeq (sAsg (mOp opAdd (mOp ixM (mVar 0) (mC (.int 1))) (mC (.int 1))) (gSubM (mVar 0) (mC (.int 1))))
 (sSeq (sIf (tOrM (tV (mOp opLt (mVar 2) (mOp opPow (mC (.int 10)) (mC (.int 18))))) (tV (mOp opGt (mOp ixM (mVar 0) (mC (.int 1))) (mCB bLen (mCons (mOp ixM (mVar 0) (mC (.int 0))) mNil))))) (sSeq (sAsg (mOp opAdd (mOp opAdd (mOp opMod (mVar 2) (mC (.int 2147483629))) (mOp opMul (mC (.int 7919)) (mOp ixM (mVar 0) (mC (.int 3))))) (mC (.int 11))) (gNm 3))
 (sSeq (sAsg (mOp opMod (mOp opMul (mVar 3) (mOp opAdd (mC (.int 48271)) (mOp opMul (mC (.int 2)) (mOp ixM (mVar 0) (mC (.int 3)))))) (mC (.int 2147483647))) (gNm 3))
 (sSeq (sAsg (mOp opMod (mOp opAdd (mOp opMul (mVar 3) (mOp opAdd (mOp opMod (mVar 3) (mC (.int 39373))) (mOp ixM (mVar 0) (mC (.int 3))))) (mOp opMul (mC (.int 31)) (mOp ixM (mVar 0) (mC (.int 3))))) (mC (.int 1999999973))) (gNm 4))
 (sRet (mOp opMod (mOp opDiv (mVar 4) (mC (.int 7))) (mVar 1)))))) sNext)
 (sAsg (mVar 2) (gSubM (mVar 0) (mC (.int 2)))))))) sNext)
 (sSeq (sAsg (mOp opMod (mOp ixM (mVar 0) (mC (.int 2))) (mVar 1)) (gNm 5))
 (sSeq (sAsg (mOp opDiv (mOp ixM (mVar 0) (mC (.int 2))) (mVar 1)) (gSubM (mVar 0) (mC (.int 2))))
 (sRet (mVar 5))))))
noncomputable def m__law_draw : FF := mFun 2 4 b__law_draw
noncomputable def b__law_word : FS :=
 (sSeq (sAsg (mLst (mCons (mC (.str "b")) (mCons (mC (.str "aa")) (mCons (mC (.str "zebra")) (mCons (mC (.str "c")) (mCons (mC (.str "quartzes")) (mCons (mC (.str "ab")) (mCons (mC (.str "m")) (mCons (mC (.str "knows")) (mCons (mC (.str "d")) (mCons (mC (.str "mm")) (mCons (mC (.str "likes")) (mCons (mC (.str "z")) (mCons (mC (.str "a")) (mCons (mC (.str "age")) mNil))))))))))))))) (gNm 1))
 (sSeq (sIf (tV (mOp opGt (mCall m__law_draw (mCons (mVar 0) (mCons (mC (.int 12)) mNil))) (mC (.int 0)))) (sRet (mOp ixM (mVar 1) (mCall m__law_draw (mCons (mVar 0) (mCons (mC (.int 14)) mNil))))) sNext)
 (sRet (mMt isS mJoin (mC (.str "")) (mCons (mComp [none, some 0] (iR1 (mCons (mOp opAdd (mC (.int 1)) (mCall m__law_draw (mCons (mVar 0) (mCons (mC (.int 8)) mNil)))) mNil)) (gNm 0) tTrueM (mOp ixM (mC (.str "abcdefghijklmnopqrstuvwxyz")) (mCall m__law_draw (mCons (mVar 1) (mCons (mC (.int 26)) mNil))))) mNil)))))
noncomputable def m__law_word : FF := mFun 1 1 b__law_word
noncomputable def b__law_value : FS :=
 (sSeq (sAsg (mOp ixM (mLst (mCons (mOp opSub (mOp opPow (mC (.int 10)) (mC (.int 12))) (mC (.int 1))) (mCons (mOp opSub (mC (.int 1)) (mOp opPow (mC (.int 10)) (mC (.int 12)))) (mCons (mOp opAdd (mOp opPow (mC (.int 10)) (mC (.int 11))) (mCall m__law_draw (mCons (mVar 0) (mCons (mOp opPow (mC (.int 10)) (mC (.int 6))) mNil)))) mNil)))) (mCall m__law_draw (mCons (mVar 0) (mCons (mC (.int 3)) mNil)))) (gNm 1))
 (sSeq (sAsg (mLst (mCons (mC (.str "")) (mCons (mC (.str "b")) (mCons (mC (.str "aa")) (mCons (mC (.str "B")) (mCons (mC (.str "ab c")) (mCons (mC (.str "12")) (mCons (mC (.str "-3")) (mCons (mC (.str "~")) (mCons (mC (.str " ")) (mCons (mC (.str "a")) (mCons (mC (.str "zzzzzzzzzzzzzzzzzzzz")) (mCons (mC (.str "0")) mNil))))))))))))) (gNm 2))
 (sSeq (sAsg (mLst (mCons (mCall m__law_draw (mCons (mVar 0) (mCons (mC (.int 5)) mNil))) (mCons (mOp opSub (mCall m__law_draw (mCons (mVar 0) (mCons (mC (.int 2001)) mNil))) (mC (.int 1000))) (mCons (mVar 1) (mCons (mOp ixM (mVar 2) (mCall m__law_draw (mCons (mVar 0) (mCons (mC (.int 12)) mNil)))) mNil))))) (gNm 3))
 (sRet (mOp ixM (mVar 3) (mOp ixM (mLst (mCons (mC (.int 0)) (mCons (mC (.int 1)) (mCons (mC (.int 2)) (mCons (mC (.int 3)) (mCons (mC (.int 3)) mNil)))))) (mCall m__law_draw (mCons (mVar 0) (mCons (mC (.int 5)) mNil)))))))))
noncomputable def m__law_value : FF := mFun 1 3 b__law_value
noncomputable def b__law_fields : FS :=
 (sSeq (sAsg mNewDH (gNm 2))
 (sSeq (sFor (iR1 (mCons (mCall m__law_draw (mCons (mVar 0) (mCons (mOp opAdd (mVar 1) (mC (.int 1))) mNil))) mNil)) (gNm 3) (sDput (mVar 2) (mCall m__law_word (mCons (mVar 0) mNil)) (mCall m__law_value (mCons (mVar 0) mNil))))
 (sRet (mVar 2))))
noncomputable def m__law_fields : FF := mSeal (mFun 2 2 b__law_fields)
noncomputable def b__law_test (rec : FF) : FS :=
 (sSeq (sAsg (mCall m__law_draw (mCons (mVar 0) (mCons (mC (.int 9)) mNil))) (gNm 2))
 (sSeq (sIf (tOrM (tV (mOp opLt (mVar 2) (mC (.int 2)))) (tAndM (tV (mOp opEq (mVar 1) (mC (.int 0)))) (tV (mOp opGt (mVar 2) (mC (.int 5)))))) (sRet (mOp ixM (mLst (mCons (mTup (mCons (mC (.str "any")) mNil)) (mCons (mTup (mCons (mC (.str "has")) (mCons (mCall m__law_word (mCons (mVar 0) mNil)) mNil))) mNil))) (mOp opDiv (mCall m__law_draw (mCons (mVar 0) (mCons (mC (.int 4)) mNil))) (mC (.int 2))))) sNext)
 (sSeq (sIf (tV (mOp opLt (mVar 2) (mC (.int 6)))) (sRet (mTup (mCons (mOp ixM (mLst (mCons (mC (.str "is")) (mCons (mC (.str "under")) (mCons (mC (.str "over")) (mCons (mC (.str "is")) mNil))))) (mOp opSub (mVar 2) (mC (.int 2)))) (mCons (mCall m__law_word (mCons (mVar 0) mNil)) (mCons (mCall m__law_value (mCons (mVar 0) mNil)) mNil))))) sNext)
 (sSeq (sIf (tV (mOp opEq (mVar 2) (mC (.int 6)))) (sRet (mTup (mCons (mC (.str "not")) (mCons (mCall rec (mCons (mVar 0) (mCons (mOp opSub (mVar 1) (mC (.int 1))) mNil))) mNil)))) sNext)
 (sRet (mTup (mCons (mOp ixM (mLst (mCons (mC (.str "both")) (mCons (mC (.str "either")) mNil))) (mOp opSub (mVar 2) (mC (.int 7)))) (mCons (mCall rec (mCons (mVar 0) (mCons (mOp opSub (mVar 1) (mC (.int 1))) mNil))) (mCons (mCall rec (mCons (mVar 0) (mCons (mOp opSub (mVar 1) (mC (.int 1))) mNil))) mNil)))))))))
noncomputable def m__law_test : Nat → FF
 | 0 => fun _ _ => none
 | n + 1 => mFun 2 1 (b__law_test (m__law_test n))
noncomputable def b__law_is_number : FS :=
 (sRet (mAnd (mCB bInst (mCons (mVar 0) (mCons (mC (.ty "int")) mNil))) (mNot (mCB bInst (mCons (mVar 0) (mCons (mC (.ty "bool")) mNil))))))
noncomputable def m__law_is_number : FF := mFun 1 0 b__law_is_number
noncomputable def b__law_of_value : FS :=
 (sSeq (sAsg (mComp [none, some 0, some 1, some 2] (iT (mTup (mCons (mC (.str "is")) (mCons (mC (.str "under")) (mCons (mC (.str "over")) mNil))))) (gNm 0) tTrueM (mCall m_fits (mCons (mTup (mCons (mVar 0) (mCons (mVar 2) (mCons (mVar 3) mNil)))) (mCons (mVar 1) mNil)))) (gNm 3))
 (sSeq (sAsg (mAnd (mOp opIn (mVar 1) (mVar 0)) (mOp opEq (mCall m__law_is_number (mCons (mOp ixM (mVar 0) (mVar 1)) mNil)) (mCall m__law_is_number (mCons (mVar 2) mNil)))) (gNm 4))
 (sSeq (sIf (tOrM (tV (mOp opNe (mMt isL mCount (mVar 3) (mCons (mC (.bl true)) mNil)) (mCB bInt (mCons (mVar 4) mNil)))) (tV (mOp opNe (mCall m_fits (mCons (mTup (mCons (mC (.str "has")) (mCons (mVar 1) mNil))) (mCons (mVar 0) mNil))) (mOp opIn (mVar 1) (mVar 0))))) (sRet (mC (.bl false))) sNext)
 (sSeq (sIf (tNotM (tV (mVar 4))) (sRet (mC (.bl true))) sNext)
 (sSeq (sAsg (mOp ixM (mVar 0) (mVar 1)) (gNm 5))
 (sRet (mOp opEq (mVar 3) (mLst (mCons (mOp opEq (mVar 5) (mVar 2)) (mCons (mCall m_before (mCons (mVar 5) (mCons (mVar 2) mNil))) (mCons (mCall m_before (mCons (mVar 2) (mCons (mVar 5) mNil))) mNil)))))))))))
noncomputable def m__law_of_value : FF := mFun 3 3 b__law_of_value
noncomputable def b__law_joined : FS :=
 (sSeq (sAsg (mOp ixM (mVar 1) (mC (.int 0))) (gNm 2))
 (sSeq (sFor (iEnumerate (mCons (mSl slM (mVar 1) (oSome (mC (.int 1))) oNo) mNil)) (gTp 2 (gsCons (gNm 3) (gsCons (gNm 4) gsNil))) (sAsg (mOp ixM (mLst (mCons (mTup (mCons (mVar 0) (mCons (mVar 2) (mCons (mVar 4) mNil)))) (mCons (mTup (mCons (mVar 0) (mCons (mVar 4) (mCons (mVar 2) mNil)))) mNil))) (mOp opMod (mVar 3) (mC (.int 2)))) (gNm 2)))
 (sRet (mVar 2))))
noncomputable def m__law_joined : FF := mFun 2 3 b__law_joined
noncomputable def b_law : FS :=
 (sSeq (sAsg (mCall m__law_hand (mCons (mVar 0) mNil)) (gNm 1))
 (sSeq (sFor (iR1 (mCons (mC (.int 8)) mNil)) (gNm 2) (sSeq (sAsg (mCall m__law_fields (mCons (mVar 1) (mCons (mC (.int 9)) mNil))) (gNm 3))
 (sSeq (sAsg (mOp ixM (mOp opAdd (mCB bSortD (mCons (mVar 3) mNil)) (mLst (mCons (mCall m__law_word (mCons (mVar 1) mNil)) mNil))) (mCall m__law_draw (mCons (mVar 1) (mCons (mOp opAdd (mCB bLen (mCons (mVar 3) mNil)) (mC (.int 1))) mNil)))) (gNm 4))
 (sSeq (sAsg (mOp ixM (mLst (mCons (mCall m__law_value (mCons (mVar 1) mNil)) (mCons (mMt isD mDGet (mVar 3) (mCons (mVar 4) (mCons (mC (.int 0)) mNil))) mNil))) (mCall m__law_draw (mCons (mVar 1) (mCons (mC (.int 2)) mNil)))) (gNm 5))
 (sSeq (sIf (tNotM (tV (mCall m__law_of_value (mCons (mVar 3) (mCons (mVar 4) (mCons (mVar 5) mNil)))))) (sRet (mC (.bl false))) sNext)
 (sSeq (sPar 6 7 (mCons (mCall (m__law_test 8) (mCons (mVar 1) (mCons (mC (.int 3)) mNil))) (mCons (mCall (m__law_test 8) (mCons (mVar 1) (mCons (mC (.int 3)) mNil))) mNil)))
 (sSeq (sAsg (mCall m_fields_told (mCons (mVar 3) mNil)) (gNm 8))
 (sSeq (sAsg (mComp [none, some 8] (iT (mTup (mCons (mVar 6) (mCons (mVar 7) mNil)))) (gNm 0) tTrueM (mCall m_fits (mCons (mTup (mCons (mC (.str "not")) (mCons (mVar 0) mNil))) (mCons (mVar 1) mNil)))) (gNm 9))
 (sSeq (sIf (tV (mOp opNe (mVar 9) (mLst (mCons (mNot (mCall m_fits (mCons (mVar 6) (mCons (mVar 3) mNil)))) (mCons (mNot (mCall m_fits (mCons (mVar 7) (mCons (mVar 3) mNil)))) mNil))))) (sRet (mC (.bl false))) sNext)
 (sSeq (sPar 10 11 (mCons (mTup (mCons (mC (.str "not")) (mCons (mVar 6) mNil))) (mCons (mTup (mCons (mC (.str "not")) (mCons (mVar 7) mNil))) mNil)))
 (sSeq (sIf (tV (mOp opNe (mCall m_fits (mCons (mTup (mCons (mC (.str "not")) (mCons (mTup (mCons (mC (.str "both")) (mCons (mVar 6) (mCons (mVar 7) mNil)))) mNil))) (mCons (mVar 3) mNil))) (mCall m_fits (mCons (mTup (mCons (mC (.str "either")) (mCons (mVar 10) (mCons (mVar 11) mNil)))) (mCons (mVar 3) mNil))))) (sRet (mC (.bl false))) sNext)
 (sSeq (sIf (tV (mOp opNe (mCall m_fits (mCons (mTup (mCons (mC (.str "not")) (mCons (mTup (mCons (mC (.str "either")) (mCons (mVar 6) (mCons (mVar 7) mNil)))) mNil))) (mCons (mVar 3) mNil))) (mCall m_fits (mCons (mTup (mCons (mC (.str "both")) (mCons (mVar 10) (mCons (mVar 11) mNil)))) (mCons (mVar 3) mNil))))) (sRet (mC (.bl false))) sNext)
 (sSeq (sAsg (mComp [none, some 1] (iR1 (mCons (mOp opAdd (mC (.int 1)) (mCall m__law_draw (mCons (mVar 1) (mCons (mC (.int 7)) mNil)))) mNil)) (gNm 0) tTrueM (mCall (m__law_test 8) (mCons (mVar 1) (mCons (mC (.int 1)) mNil)))) (gNm 12))
 (sSeq (sAsg (mComp [none, some 3] (iL (mVar 12)) (gNm 0) tTrueM (mCall m_fits (mCons (mVar 0) (mCons (mVar 1) mNil)))) (gNm 13))
 (sSeq (sIf (tV (mOp opNe (mCall m_fits (mCons (mCall m__law_joined (mCons (mC (.str "both")) (mCons (mVar 12) mNil))) (mCons (mVar 8) mNil))) (mOp opNotIn (mC (.bl false)) (mVar 13)))) (sRet (mC (.bl false))) sNext)
 (sSeq (sIf (tV (mOp opNe (mCall m_fits (mCons (mCall m__law_joined (mCons (mC (.str "either")) (mCons (mVar 12) mNil))) (mCons (mVar 8) mNil))) (mOp opIn (mC (.bl true)) (mVar 13)))) (sRet (mC (.bl false))) sNext)
 (sIf (tOrM (tNotM (tV (mCall (m_is_test 14) (mCons (mCall m__law_joined (mCons (mC (.str "both")) (mCons (mVar 12) mNil))) mNil)))) (tNotM (tV (mCall (m_is_test 14) (mCons (mTup (mCons (mC (.str "not")) (mCons (mVar 6) mNil))) mNil))))) (sRet (mC (.bl false))) sNext)))))))))))))))))
 (sRet (mC (.bl true)))))
noncomputable def m_law : FF := mFun 1 13 b_law
end K06
set_option Elab.async false
set_option linter.all false
set_option maxRecDepth 100000
set_option maxHeartbeats 8000000
namespace K06
open PySem L2
local macro_rules | `(tactic| walk_at "n") => `(tactic| exact ⟨by decide +kernel, by decide +kernel, by decide +kernel, by decide +kernel⟩)
local macro_rules | `(tactic| apply $e:term) => `(tactic| with_reducible refine' $e)
local macro_rules | `(tactic| walk_at "late") => `(tactic| first | rfl | exact True.intro | exact nomark _ | exact PassesOwn.never | exact Room.mono (by assumption) (by omega) | exact fun _ _ => rfl | (intro _; rfl) | with_unfolding_all rfl | exact Or.inl rfl | decide | simp)
section
variable {P : Program} {w : World} {K : PySem.W.Frag} {mg : Str → Option Value} {base : Heap} {t : Adr}
theorem ok_is_name (T : Txt K mg t) : FnOk P w K mg base CX0 1 t.f_is_name t.d_is_name ["thing"] (spM K m_is_name) := by
 refine T.F_is_name.okM (k := 0) sc_is_name rfl fun cdv A outer s H E hr => ?_
 unfold b_is_name
 conv => arg 2; whnf
 apply mss_cons ?d1 ?d2
 case' d1 => apply ms_if ?d3 ?d4 mss_nil
 case' d3 => apply PW.pt ?_
 case' d3 => apply mw_or ?d6 ?d7
 case' d6 => apply mt_not ?_
 case' d6 => apply mt_val ?d9 ?_
 case' d9 => apply me_CB call_instM fm_inst ?d10 ?d11 PyProof.Rows.boot_isinstance ?d12 ?_ ?_
 case d10 => exact q5
 case d11 => exact T.z_isinstance
 case' d12 => apply ma_2 ?d13 ?d14 ?_ ?_
 case d13 => exact (me_var (pvk 0 q0))
 case' d14 => apply me_C ?d15 ?_
 case' d15 => apply pe_bltnk (v := .ty "str") ?d16 ?d17 ?_ ?_
 case d16 => exact q4
 case d17 => exact T.z_str
 case' d7 => apply mw_or1 ?_
 case' d7 => apply mt_not ?_
 case' d7 => apply mt_chain op_leA fm_le op_leA fm_le me_int ?d20 ?d21 ?_
 case' d20 => apply me_CB call_lenM fm_len ?d22 ?d23 PySem.boot_len ?d24 ?_ ?_
 case d22 => exact q2
 case d23 => exact T.z_len
 case' d24 => apply ma_1 ?d25 ?_
 case d25 => exact (me_var (pvk 0 q0))
 case' d21 => apply me_glob ?d26 ?d27 ?d28
 case d26 => exact q3
 case d27 => exact T.c_LONGEST_NAME
 case d28 => exact T.r_LONGEST_NAME
 case' d4 => apply mss_one ?_
 case' d4 => apply ms_ret me_bl
 case' d2 => apply mss_one ?_
 case' d2 => apply ms_ret ?_
 case' d2 => apply me_CB ?d32 fm_all ?d33 ?d34 PyProof.Rows.boot_all ?d35 ?_ ?_
 case d32 => exact (call_all rfl)
 case d33 => exact q1
 case d34 => exact T.z_all
 case' d35 => apply ma_1 ?d36 ?_
 case' d36 => apply me_comp (N' := ["sign"]) (ix := [none]) ?d37 ?_ ?d38 ?d39 ?d40 ?d41 ?d42 ?_
 case d37 => exact ⟨rfl, by decide +kernel, by decide +kernel, comp_free _ _ rfl, rfl, comp_ix _ _ _ _ rfl⟩
 case' d38 => apply cg_name ?_
 case' d39 => apply mi_str ?_
 case d39 => exact (me_var (pvk 0 q0))
 case d40 => (intro _ _ _ _; exact (pgo (i := 0) (by walk_at "n") (show List.Nodup (["sign"] : List Str) from by decide +kernel) (by rfl)))
 case d41 => (intro _ _ _ _; exact mts_nil)
 case' d42 => (intro _ _ _ _; apply me_chain op_leA fm_le op_leA fm_le me_str ?d44 me_str ?_)
 case d44 => exact (me_var (pvk 0 (NmOk.own (by walk_at "n"))))
 all_goals (try walk_at "late")
theorem ok_is_number (T : Txt K mg t) : FnOk P w K mg base CX0 1 t.f_is_number t.d_is_number ["thing"] (spM K m_is_number) := by
 refine T.F_is_number.okM (k := 0) sc_is_number rfl fun cdv A outer s H E hr => ?_
 unfold b_is_number
 conv => arg 2; whnf
 apply mss_one ?_
 apply ms_ret ?_
 apply me_and ?d3 ?d4
 case' d3 => apply me_CB call_instM fm_inst ?d5 ?d6 PyProof.Rows.boot_isinstance ?d7 ?_ ?_
 case d5 => exact q8
 case d6 => exact T.z_isinstance
 case' d7 => apply ma_2 ?d8 ?d9 ?_ ?_
 case d8 => exact (me_var (pvk 0 q6))
 case' d9 => apply me_C ?d10 ?_
 case' d10 => apply pe_bltnk (v := .ty "int") ?d11 ?d12 ?_ ?_
 case d11 => exact q9
 case d12 => exact T.z_int
 case' d4 => apply me_one ?_
 case' d4 => apply me_not ?_
 case' d4 => apply me_CB call_instM fm_inst ?d15 ?d16 PyProof.Rows.boot_isinstance ?d17 ?_ ?_
 case d15 => exact q8
 case d16 => exact T.z_isinstance
 case' d17 => apply ma_2 ?d18 ?d19 ?_ ?_
 case d18 => exact (me_var (pvk 0 q6))
 case' d19 => apply me_C ?d20 ?_
 case' d20 => apply pe_bltnk (v := .ty "bool") ?d21 ?d22 ?_ ?_
 case d21 => exact q7
 case d22 => exact T.z_bool
 all_goals (try walk_at "late")
theorem ok_is_value (T : Txt K mg t) : FnOk P w K mg base CX0 2 t.f_is_value t.d_is_value ["thing"] (spM K m_is_value) := by
 have C_is_number := Cal.of (ok_is_number (P := P) (w := w) (base := base) T) T.m_is_number T.F_is_number.kp T.b_is_number
 refine T.F_is_value.okM (k := 1) sc_is_value rfl fun cdv A outer s H E hr => ?_
 unfold b_is_value
 conv => arg 2; whnf
 apply mss_one ?_
 apply ms_ret ?_
 apply me_or ?d3 ?d4
 case' d3 => apply me_cal ?d5 ?_ ?d6 ?d7 ?_ ?_
 case d5 => exact C_is_number
 case d6 => exact q13
 case' d7 => apply ma_1 ?d8 ?_
 case d8 => exact (me_var (pvk 0 q10))
 case' d4 => apply me_one ?_
 case' d4 => apply me_CB call_instM fm_inst ?d10 ?d11 PyProof.Rows.boot_isinstance ?d12 ?_ ?_
 case d10 => exact q12
 case d11 => exact T.z_isinstance
 case' d12 => apply ma_2 ?d13 ?d14 ?_ ?_
 case d13 => exact (me_var (pvk 0 q10))
 case' d14 => apply me_C ?d15 ?_
 case' d15 => apply pe_bltnk (v := .ty "str") ?d16 ?d17 ?_ ?_
 case d16 => exact q11
 case d17 => exact T.z_str
 all_goals (try walk_at "late")
theorem ok_same_sort (T : Txt K mg t) : FnOk P w K mg base CX0 1 t.f_same_sort t.d_same_sort ["one", "other"] (spM K m_same_sort) := by
 refine T.F_same_sort.okM (k := 0) sc_same_sort rfl fun cdv A outer s H E hr => ?_
 unfold b_same_sort
 conv => arg 2; whnf
 apply mss_one ?_
 apply ms_ret ?_
 apply me_cmp ?d3 fm_eq ?d4 ?d5 ?_
 case d3 => exact (op_eqK (hu150 hr))
 case' d4 => apply me_CB call_instM fm_inst ?d6 ?d7 PyProof.Rows.boot_isinstance ?d8 ?_ ?_
 case d6 => exact q16
 case d7 => exact T.z_isinstance
 case' d8 => apply ma_2 ?d9 ?d10 ?_ ?_
 case d9 => exact (me_var (pvk 0 q14))
 case' d10 => apply me_C ?d11 ?_
 case' d11 => apply pe_bltnk (v := .ty "str") ?d12 ?d13 ?_ ?_
 case d12 => exact q15
 case d13 => exact T.z_str
 case' d5 => apply me_CB call_instM fm_inst ?d14 ?d15 PyProof.Rows.boot_isinstance ?d16 ?_ ?_
 case d14 => exact q16
 case d15 => exact T.z_isinstance
 case' d16 => apply ma_2 ?d17 ?d18 ?_ ?_
 case d17 => exact (me_var (pvk 1 q17))
 case' d18 => apply me_C ?d19 ?_
 case' d19 => apply pe_bltnk (v := .ty "str") ?d20 ?d21 ?_ ?_
 case d20 => exact q15
 case d21 => exact T.z_str
 all_goals (try walk_at "late")
theorem ok_before (T : Txt K mg t) : FnOk P w K mg base CX0 2 t.f_before t.d_before ["one", "other"] (spM K m_before) := by
 have C_same_sort := Cal.of (ok_same_sort (P := P) (w := w) (base := base) T) T.m_same_sort T.F_same_sort.kp T.b_same_sort
 refine T.F_before.okM (k := 1) sc_before rfl fun cdv A outer s H E hr => ?_
 unfold b_before
 conv => arg 2; whnf
 apply mss_cons ?d1 ?d2
 case' d1 => apply ms_if ?d3 ?d4 mss_nil
 case' d3 => apply mt_val ?d5 ?_
 case' d5 => apply me_cal ?d6 ?_ ?d7 ?d8 ?_ ?_
 case d6 => exact C_same_sort
 case d7 => exact q22
 case' d8 => apply ma_2 ?d9 ?d10 ?_ ?_
 case d9 => exact (me_var (pvk 0 q21))
 case d10 => exact (me_var (pvk 1 q18))
 case' d4 => apply mss_one ?_
 case' d4 => apply ms_ret ?_
 case' d4 => apply me_cmp op_ltA fm_lt ?d13 ?d14 ?_
 case d13 => exact (me_var (pvk 0 q21))
 case d14 => exact (me_var (pvk 1 q18))
 case' d2 => apply mss_one ?_
 case' d2 => apply ms_ret ?_
 case' d2 => apply me_CB call_instM fm_inst ?d17 ?d18 PyProof.Rows.boot_isinstance ?d19 ?_ ?_
 case d17 => exact q20
 case d18 => exact T.z_isinstance
 case' d19 => apply ma_2 ?d20 ?d21 ?_ ?_
 case d20 => exact (me_var (pvk 1 q18))
 case' d21 => apply me_C ?d22 ?_
 case' d22 => apply pe_bltnk (v := .ty "str") ?d23 ?d24 ?_ ?_
 case d23 => exact q19
 case d24 => exact T.z_str
 all_goals (try walk_at "late")
theorem ok_fields_told (T : Txt K mg t) : FnOk P w K mg base CX0 1 t.f_fields_told t.d_fields_told ["fields"] (spM K m_fields_told) := by
 refine T.F_fields_told.okM (k := 0) sc_fields_told rfl fun cdv A outer s H E hr => ?_
 unfold b_fields_told
 conv => arg 2; whnf
 apply mss_one ?_
 apply ms_ret ?_
 apply me_CTy call_tuple_of fm_tuple ?d3 ?d4 ?_ ?d5 ?_ ?_
 case d3 => exact q26
 case d4 => exact T.z_tuple
 case' d5 => apply ma_1 ?d6 ?_
 case' d6 => apply me_sortItems ?_ ?d7 ?d8 ?d9 ?_ ?_
 case d7 => exact q25
 case d8 => exact T.z_sorted
 case' d9 => apply me_CTy ?d10 fm_dict ?d11 ?d12 ?_ ?d13 ?_ ?_
 case d10 => exact (call_dictM rfl)
 case d11 => exact q24
 case d12 => exact T.z_dict
 case' d13 => apply ma_1 ?d14 ?_
 case d14 => exact (me_var (pvk 0 q23))
 all_goals (try walk_at "late")
theorem ok_is_test (T : Txt K mg t) (n : Nat) : FnOk P w K mg base CX0 (n + 2) t.f_is_test t.d_is_test ["thing"] (spM K (m_is_test n)) := by
 induction n with
 | zero => exact FnOk.empty
 | succ n ih =>
   have C_is_name := Cal.of (ok_is_name (P := P) (w := w) (base := base) T) T.m_is_name T.F_is_name.kp T.b_is_name
   have C_is_value := Cal.of (ok_is_value (P := P) (w := w) (base := base) T) T.m_is_value T.F_is_value.kp T.b_is_value
   have C_is_test := Cal.of ih T.m_is_test T.F_is_test.kp T.b_is_test
   refine FnOk.mono (j := n + 2 + 1) (T.F_is_test.okM (k := n + 2) sc_is_test rfl fun cdv A outer s H E hr => ?_) (by omega)
   unfold b_is_test
   conv => arg 2; whnf
   apply mss_cons ?d1 ?d2
   case' d1 => apply ms_if ?d3 ?d4 mss_nil
   case' d3 => apply PW.pt ?_
   case' d3 => apply mw_or ?d6 ?d7
   case' d6 => apply mt_not ?_
   case' d6 => apply mt_val ?d9 ?_
   case' d9 => apply me_CB call_instM fm_inst ?d10 ?d11 PyProof.Rows.boot_isinstance ?d12 ?_ ?_
   case d10 => exact q35
   case d11 => exact T.z_isinstance
   case' d12 => apply ma_2 ?d13 ?d14 ?_ ?_
   case d13 => exact (me_var (pvk 0 q33))
   case' d14 => apply me_C ?d15 ?_
   case' d15 => apply pe_bltnk (v := .ty "tuple") ?d16 ?d17 ?_ ?_
   case d16 => exact q34
   case d17 => exact T.z_tuple
   case' d7 => apply mw_or1 ?_
   case' d7 => apply mt_cmp ?d19 fm_eq ?d20 me_int ?_
   case d19 => exact (op_eqK (hu150 hr))
   case' d20 => apply me_CB call_lenM fm_len ?d21 ?d22 PySem.boot_len ?d23 ?_ ?_
   case d21 => exact q29
   case d22 => exact T.z_len
   case' d23 => apply ma_1 ?d24 ?_
   case d24 => exact (me_var (pvk 0 q33))
   case' d4 => apply mss_one ?_
   case' d4 => apply ms_ret me_bl
   case' d2 => apply mss_cons ?d26 ?d27
   case' d26 => apply ms_set (i := 1) ?d28 ?_ ?d29 ?d30 ?_ ?_
   case d28 => exact sc_is_test.nd
   case d29 => exact (Or.inl q30.lk)
   case' d30 => apply me_ix (ix_M (hu151 hr)) fm_ix ?d31 me_int ?_
   case d31 => exact (me_var (pvk 0 q33))
   case' d27 => apply mss_cons ?d32 ?d33
   case' d32 => apply ms_set (i := 2) ?d34 ?_ ?d35 ?d36 ?_ ?_
   case d34 => exact sc_is_test.nd
   case d35 => exact (Or.inl q27.lk)
   case' d36 => apply me_slice sl_M fm_sl ?d37 ?d38 mo_none
   case d37 => exact (me_var (pvk 0 q33))
   case' d38 => apply mo_some me_int
   case' d33 => apply mss_cons ?d39 ?d40
   case' d39 => apply ms_if ?d41 ?d42 mss_nil
   case' d41 => apply mt_cmp ?d43 fm_eq ?d44 me_str ?_
   case d43 => exact (op_eqK (hu150 hr))
   case d44 => exact (me_var (pvk 1 q30))
   case' d42 => apply mss_one ?_
   case' d42 => apply ms_ret ?_
   case' d42 => apply me_cmp ?d47 fm_eq ?d48 me_int ?_
   case d47 => exact (op_eqK (hu150 hr))
   case' d48 => apply me_CB call_lenM fm_len ?d49 ?d50 PySem.boot_len ?d51 ?_ ?_
   case d49 => exact q29
   case d50 => exact T.z_len
   case' d51 => apply ma_1 ?d52 ?_
   case d52 => exact (me_var (pvk 2 q27))
   case' d40 => apply mss_cons ?d53 ?d54
   case' d53 => apply ms_if ?d55 ?d56 mss_nil
   case' d55 => apply mt_cmp ?d57 fm_eq ?d58 me_str ?_
   case d57 => exact (op_eqK (hu150 hr))
   case d58 => exact (me_var (pvk 1 q30))
   case' d56 => apply mss_one ?_
   case' d56 => apply ms_ret ?_
   case' d56 => apply me_and ?d61 ?d62
   case' d61 => apply me_cmp ?d63 fm_eq ?d64 me_int ?_
   case d63 => exact (op_eqK (hu150 hr))
   case' d64 => apply me_CB call_lenM fm_len ?d65 ?d66 PySem.boot_len ?d67 ?_ ?_
   case d65 => exact q29
   case d66 => exact T.z_len
   case' d67 => apply ma_1 ?d68 ?_
   case d68 => exact (me_var (pvk 2 q27))
   case' d62 => apply me_one ?_
   case' d62 => apply me_cal ?d70 ?_ ?d71 ?d72 ?_ ?_
   case d70 => exact C_is_name
   case d71 => exact q32
   case' d72 => apply ma_1 ?d73 ?_
   case' d73 => apply me_ix (ix_M (hu151 hr)) fm_ix ?d74 me_int ?_
   case d74 => exact (me_var (pvk 2 q27))
   case' d54 => apply mss_cons ?d75 ?d76
   case' d75 => apply ms_if ?d77 ?d78 mss_nil
   case' d77 => apply mt_cmp ?d79 fm_in ?d80 ?d81 ?_
   case d79 => exact (op_inM (hu151 hr))
   case d80 => exact (me_var (pvk 1 q30))
   case' d81 => apply me_tup ?_
   case' d81 => apply ma_3 me_str me_str me_str ?_ ?_ ?_
   case' d78 => apply mss_one ?_
   case' d78 => apply ms_ret ?_
   case' d78 => apply me_and ?d85 ?d86
   case' d85 => apply me_cmp ?d87 fm_eq ?d88 me_int ?_
   case d87 => exact (op_eqK (hu150 hr))
   case' d88 => apply me_CB call_lenM fm_len ?d89 ?d90 PySem.boot_len ?d91 ?_ ?_
   case d89 => exact q29
   case d90 => exact T.z_len
   case' d91 => apply ma_1 ?d92 ?_
   case d92 => exact (me_var (pvk 2 q27))
   case' d86 => apply me_and ?d93 ?d94
   case' d93 => apply me_cal ?d95 ?_ ?d96 ?d97 ?_ ?_
   case d95 => exact C_is_name
   case d96 => exact q32
   case' d97 => apply ma_1 ?d98 ?_
   case' d98 => apply me_ix (ix_M (hu151 hr)) fm_ix ?d99 me_int ?_
   case d99 => exact (me_var (pvk 2 q27))
   case' d94 => apply me_one ?_
   case' d94 => apply me_cal ?d101 ?_ ?d102 ?d103 ?_ ?_
   case d101 => exact C_is_value
   case d102 => exact q31
   case' d103 => apply ma_1 ?d104 ?_
   case' d104 => apply me_ix (ix_M (hu151 hr)) fm_ix ?d105 me_int ?_
   case d105 => exact (me_var (pvk 2 q27))
   case' d76 => apply mss_cons ?d106 ?d107
   case' d106 => apply ms_if ?d108 ?d109 mss_nil
   case' d108 => apply mt_cmp ?d110 fm_in ?d111 ?d112 ?_
   case d110 => exact (op_inM (hu151 hr))
   case d111 => exact (me_var (pvk 1 q30))
   case' d112 => apply me_tup ?_
   case' d112 => apply ma_2 me_str me_str ?_ ?_
   case' d109 => apply mss_one ?_
   case' d109 => apply ms_ret ?_
   case' d109 => apply me_and ?d116 ?d117
   case' d116 => apply me_cmp ?d118 fm_eq ?d119 me_int ?_
   case d118 => exact (op_eqK (hu150 hr))
   case' d119 => apply me_CB call_lenM fm_len ?d120 ?d121 PySem.boot_len ?d122 ?_ ?_
   case d120 => exact q29
   case d121 => exact T.z_len
   case' d122 => apply ma_1 ?d123 ?_
   case d123 => exact (me_var (pvk 2 q27))
   case' d117 => apply me_and ?d124 ?d125
   case' d124 => apply me_cal ?d126 ?_ ?d127 ?d128 ?_ ?_
   case d126 => exact C_is_test
   case d127 => exact q28
   case' d128 => apply ma_1 ?d129 ?_
   case' d129 => apply me_ix (ix_M (hu151 hr)) fm_ix ?d130 me_int ?_
   case d130 => exact (me_var (pvk 2 q27))
   case' d125 => apply me_one ?_
   case' d125 => apply me_cal ?d132 ?_ ?d133 ?d134 ?_ ?_
   case d132 => exact C_is_test
   case d133 => exact q28
   case' d134 => apply ma_1 ?d135 ?_
   case' d135 => apply me_ix (ix_M (hu151 hr)) fm_ix ?d136 me_int ?_
   case d136 => exact (me_var (pvk 2 q27))
   case' d107 => apply mss_one ?_
   case' d107 => apply ms_ret ?_
   case' d107 => apply me_and ?d139 ?d140
   case' d139 => apply me_cmp ?d141 fm_eq ?d142 me_str ?_
   case d141 => exact (op_eqK (hu150 hr))
   case d142 => exact (me_var (pvk 1 q30))
   case' d140 => apply me_and ?d143 ?d144
   case' d143 => apply me_cmp ?d145 fm_eq ?d146 me_int ?_
   case d145 => exact (op_eqK (hu150 hr))
   case' d146 => apply me_CB call_lenM fm_len ?d147 ?d148 PySem.boot_len ?d149 ?_ ?_
   case d147 => exact q29
   case d148 => exact T.z_len
   case' d149 => apply ma_1 ?d150 ?_
   case d150 => exact (me_var (pvk 2 q27))
   case' d144 => apply me_one ?_
   case' d144 => apply me_cal ?d152 ?_ ?d153 ?d154 ?_ ?_
   case d152 => exact C_is_test
   case d153 => exact q28
   case' d154 => apply ma_1 ?d155 ?_
   case' d155 => apply me_ix (ix_M (hu151 hr)) fm_ix ?d156 me_int ?_
   case d156 => exact (me_var (pvk 2 q27))
   all_goals (try walk_at "late")
theorem ok_compares (T : Txt K mg t) : FnOk P w K mg base CX0 3 t.f_compares t.d_compares ["word", "value", "bound"] (spM K m_compares) := by
 have C_same_sort := Cal.of (ok_same_sort (P := P) (w := w) (base := base) T) T.m_same_sort T.F_same_sort.kp T.b_same_sort
 have C_before := Cal.of (ok_before (P := P) (w := w) (base := base) T) T.m_before T.F_before.kp T.b_before
 refine T.F_compares.okM (k := 2) sc_compares rfl fun cdv A outer s H E hr => ?_
 unfold b_compares
 conv => arg 2; whnf
 apply mss_cons ?d1 ?d2
 case' d1 => apply ms_if ?d3 ?d4 mss_nil
 case' d3 => apply mt_cmp ?d5 fm_eq ?d6 me_str ?_
 case d5 => exact (op_eqK (hu150 hr))
 case d6 => exact (me_var (pvk 0 q45))
 case' d4 => apply mss_one ?_
 case' d4 => apply ms_ret ?_
 case' d4 => apply me_cmp ?d9 fm_eq ?d10 ?d11 ?_
 case d9 => exact (op_eqK (hu150 hr))
 case d10 => exact (me_var (pvk 1 q46))
 case d11 => exact (me_var (pvk 2 q47))
 case' d2 => apply mss_cons ?d12 ?d13
 case' d12 => apply ms_if ?d14 ?d15 mss_nil
 case' d14 => apply mt_not ?_
 case' d14 => apply mt_val ?d17 ?_
 case' d17 => apply me_cal ?d18 ?_ ?d19 ?d20 ?_ ?_
 case d18 => exact C_same_sort
 case d19 => exact q49
 case' d20 => apply ma_2 ?d21 ?d22 ?_ ?_
 case d21 => exact (me_var (pvk 1 q46))
 case d22 => exact (me_var (pvk 2 q47))
 case' d15 => apply mss_one ?_
 case' d15 => apply ms_ret me_bl
 case' d13 => apply mss_one ?_
 case' d13 => apply ms_ret ?_
 case' d13 => apply me_if ?d26 ?d27 ?d28
 case' d26 => apply mt_cmp ?d29 fm_eq ?d30 me_str ?_
 case d29 => exact (op_eqK (hu150 hr))
 case d30 => exact (me_var (pvk 0 q45))
 case' d27 => apply me_cal ?d31 ?_ ?d32 ?d33 ?_ ?_
 case d31 => exact C_before
 case d32 => exact q48
 case' d33 => apply ma_2 ?d34 ?d35 ?_ ?_
 case d34 => exact (me_var (pvk 1 q46))
 case d35 => exact (me_var (pvk 2 q47))
 case' d28 => apply me_cal ?d36 ?_ ?d37 ?d38 ?_ ?_
 case d36 => exact C_before
 case d37 => exact q48
 case' d38 => apply ma_2 ?d39 ?d40 ?_ ?_
 case d39 => exact (me_var (pvk 2 q47))
 case d40 => exact (me_var (pvk 1 q46))
 all_goals (try walk_at "late")
theorem ok_holds (T : Txt K mg t) (n : Nat) : FnOk P w K mg base CX0 (n + 3) t.f_holds t.d_holds ["test", "held"] (spM K (m_holds n)) := by
 induction n with
 | zero => exact FnOk.empty
 | succ n ih =>
   have C_compares := Cal.of (ok_compares (P := P) (w := w) (base := base) T) T.m_compares T.F_compares.kp T.b_compares
   have C_holds := Cal.of ih T.m_holds T.F_holds.kp T.b_holds
   refine FnOk.mono (j := n + 3 + 1) (T.F_holds.okM (k := n + 3) sc_holds rfl fun cdv A outer s H E hr => ?_) (by omega)
   unfold b_holds
   conv => arg 2; whnf
   apply mss_cons ?d1 ?d2
   case' d1 => apply ms_set (i := 2) ?d3 ?_ ?d4 ?d5 ?_ ?_
   case d3 => exact sc_holds.nd
   case d4 => exact (Or.inl q40.lk)
   case' d5 => apply me_ix (ix_M (hu151 hr)) fm_ix ?d6 me_int ?_
   case d6 => exact (me_var (pvk 0 q42))
   case' d2 => apply mss_cons ?d7 ?d8
   case' d7 => apply ms_if ?d9 ?d10 mss_nil
   case' d9 => apply mt_cmp ?d11 fm_eq ?d12 me_str ?_
   case d11 => exact (op_eqK (hu150 hr))
   case d12 => exact (me_var (pvk 2 q40))
   case' d10 => apply mss_one ?_
   case' d10 => apply ms_ret me_bl
   case' d8 => apply mss_cons ?d14 ?d15
   case' d14 => apply ms_if ?d16 ?d17 mss_nil
   case' d16 => apply mt_cmp ?d18 fm_eq ?d19 me_str ?_
   case d18 => exact (op_eqK (hu150 hr))
   case d19 => exact (me_var (pvk 2 q40))
   case' d17 => apply mss_one ?_
   case' d17 => apply ms_ret ?_
   case' d17 => apply me_and ?d22 ?d23
   case' d22 => apply me_cal ?d24 ?_ ?d25 ?d26 ?_ ?_
   case d24 => exact C_holds
   case d25 => exact q44
   case' d26 => apply ma_2 ?d27 ?d28 ?_ ?_
   case' d27 => apply me_ix (ix_M (hu151 hr)) fm_ix ?d29 me_int ?_
   case d29 => exact (me_var (pvk 0 q42))
   case d28 => exact (me_var (pvk 1 q41))
   case' d23 => apply me_one ?_
   case' d23 => apply me_cal ?d31 ?_ ?d32 ?d33 ?_ ?_
   case d31 => exact C_holds
   case d32 => exact q44
   case' d33 => apply ma_2 ?d34 ?d35 ?_ ?_
   case' d34 => apply me_ix (ix_M (hu151 hr)) fm_ix ?d36 me_int ?_
   case d36 => exact (me_var (pvk 0 q42))
   case d35 => exact (me_var (pvk 1 q41))
   case' d15 => apply mss_cons ?d37 ?d38
   case' d37 => apply ms_if ?d39 ?d40 mss_nil
   case' d39 => apply mt_cmp ?d41 fm_eq ?d42 me_str ?_
   case d41 => exact (op_eqK (hu150 hr))
   case d42 => exact (me_var (pvk 2 q40))
   case' d40 => apply mss_one ?_
   case' d40 => apply ms_ret ?_
   case' d40 => apply me_or ?d45 ?d46
   case' d45 => apply me_cal ?d47 ?_ ?d48 ?d49 ?_ ?_
   case d47 => exact C_holds
   case d48 => exact q44
   case' d49 => apply ma_2 ?d50 ?d51 ?_ ?_
   case' d50 => apply me_ix (ix_M (hu151 hr)) fm_ix ?d52 me_int ?_
   case d52 => exact (me_var (pvk 0 q42))
   case d51 => exact (me_var (pvk 1 q41))
   case' d46 => apply me_one ?_
   case' d46 => apply me_cal ?d54 ?_ ?d55 ?d56 ?_ ?_
   case d54 => exact C_holds
   case d55 => exact q44
   case' d56 => apply ma_2 ?d57 ?d58 ?_ ?_
   case' d57 => apply me_ix (ix_M (hu151 hr)) fm_ix ?d59 me_int ?_
   case d59 => exact (me_var (pvk 0 q42))
   case d58 => exact (me_var (pvk 1 q41))
   case' d38 => apply mss_cons ?d60 ?d61
   case' d60 => apply ms_if ?d62 ?d63 mss_nil
   case' d62 => apply mt_cmp ?d64 fm_eq ?d65 me_str ?_
   case d64 => exact (op_eqK (hu150 hr))
   case d65 => exact (me_var (pvk 2 q40))
   case' d63 => apply mss_one ?_
   case' d63 => apply ms_ret ?_
   case' d63 => apply me_not ?_
   case' d63 => apply me_cal ?d69 ?_ ?d70 ?d71 ?_ ?_
   case d69 => exact C_holds
   case d70 => exact q44
   case' d71 => apply ma_2 ?d72 ?d73 ?_ ?_
   case' d72 => apply me_ix (ix_M (hu151 hr)) fm_ix ?d74 me_int ?_
   case d74 => exact (me_var (pvk 0 q42))
   case d73 => exact (me_var (pvk 1 q41))
   case' d61 => apply mss_cons ?d75 ?d76
   case' d75 => apply ms_if ?d77 ?d78 mss_nil
   case' d77 => apply mt_cmp ?d79 fm_notIn ?d80 ?d81 ?_
   case d79 => exact (op_notInM (hu151 hr))
   case' d80 => apply me_ix (ix_M (hu151 hr)) fm_ix ?d82 me_int ?_
   case d82 => exact (me_var (pvk 0 q42))
   case d81 => exact (me_var (pvk 1 q41))
   case' d78 => apply mss_one ?_
   case' d78 => apply ms_ret me_bl
   case' d76 => apply mss_one ?_
   case' d76 => apply ms_ret ?_
   case' d76 => apply me_or ?d86 ?d87
   case' d86 => apply me_cmp ?d88 fm_eq ?d89 me_str ?_
   case d88 => exact (op_eqK (hu150 hr))
   case d89 => exact (me_var (pvk 2 q40))
   case' d87 => apply me_one ?_
   case' d87 => apply me_cal ?d91 ?_ ?d92 ?d93 ?_ ?_
   case d91 => exact C_compares
   case d92 => exact q43
   case' d93 => apply ma_3 ?d94 ?d95 ?d96 ?_ ?_ ?_
   case d94 => exact (me_var (pvk 2 q40))
   case' d95 => apply me_ix (ix_M (hu151 hr)) fm_ix ?d97 ?d98 ?_
   case d97 => exact (me_var (pvk 1 q41))
   case' d98 => apply me_ix (ix_M (hu151 hr)) fm_ix ?d99 me_int ?_
   case d99 => exact (me_var (pvk 0 q42))
   case' d96 => apply me_ix (ix_M (hu151 hr)) fm_ix ?d100 me_int ?_
   case d100 => exact (me_var (pvk 0 q42))
   all_goals (try walk_at "late")
theorem ok_fits (T : Txt K mg t) : FnOk P w K mg base CX0 18 t.f_fits t.d_fits ["test", "fields"] (spM K m_fits) := by
 have C_holds := Cal.of (ok_holds (P := P) (w := w) (base := base) T 14) T.m_holds T.F_holds.kp T.b_holds
 refine T.F_fits.okM (k := 17) sc_fits rfl fun cdv A outer s H E hr => ?_
 unfold b_fits
 conv => arg 2; whnf
 apply mss_one ?_
 apply ms_ret ?_
 apply me_cal ?d3 ?_ ?d4 ?d5 ?_ ?_
 case d3 => exact C_holds
 case d4 => exact q39
 case' d5 => apply ma_2 ?d6 ?d7 ?_ ?_
 case d6 => exact (me_var (pvk 0 q36))
 case' d7 => apply me_CTy ?d8 fm_dict ?d9 ?d10 ?_ ?d11 ?_ ?_
 case d8 => exact (call_dictM rfl)
 case d9 => exact q38
 case d10 => exact T.z_dict
 case' d11 => apply ma_1 ?d12 ?_
 case d12 => exact (me_var (pvk 1 q37))
 all_goals (try walk_at "late")
theorem ok__law_hand (T : Txt K mg t) : FnOk P w K mg base CX0 1 t.f__law_hand t.d__law_hand ["_law_script"] (spM K m__law_hand) := by
 refine T.F__law_hand.okM (k := 0) sc__law_hand rfl fun cdv A outer s H E hr => ?_
 unfold b__law_hand
 conv => arg 2; whnf
 apply mss_one ?_
 apply ms_ret ?_
 apply me_lstH ?_
 apply ma_4 ?d4 me_int me_int me_int ?_ ?_ ?_ ?_
 case' d4 => apply me_comp (N' := ["_law_cell"]) (ix := [none]) ?d5 ?_ ?d6 ?d7 ?d8 ?d9 ?d10 ?_
 case d5 => exact ⟨rfl, by decide +kernel, by decide +kernel, comp_free _ _ rfl, rfl, comp_ix _ _ _ _ rfl⟩
 case' d6 => apply cg_name ?_
 case' d7 => apply mi_list ?_
 case' d7 => apply me_slice sl_M fm_sl ?d12 mo_none ?d13
 case d12 => exact (me_var (pvk 0 q50))
 case' d13 => apply mo_some me_int
 case d8 => (intro _ _ _ _; exact (pgo (i := 0) (by walk_at "n") (show List.Nodup (["_law_cell"] : List Str) from by decide +kernel) (by rfl)))
 case d9 => (intro _ _ _ _; exact mts_nil)
 case' d10 => (intro _ _ _ _; apply me_CB call_abs fm_abs ?d14 ?d15 PyProof.Rows.Boot.abs ?d16 ?_ ?_)
 case d14 => exact (NmOk.glob (by walk_at "n"))
 case d15 => exact T.z_abs
 case' d16 => apply ma_1 ?d17 ?_
 case d17 => exact (me_var (pvk 0 (NmOk.own (by walk_at "n"))))
 all_goals (try walk_at "late")
theorem ok__law_draw (T : Txt K mg t) : FnOk P w K mg base CX0 1 t.f__law_draw t.d__law_draw ["_law_hand_here", "_law_many"] (spM K m__law_draw) := by
 refine T.F__law_draw.okM (k := 0) sc__law_draw rfl fun cdv A outer s H E hr => ?_
 unfold b__law_draw
 conv => arg 2; whnf
 apply mss_cons ?d1 ?d2
 case' d1 => apply ms_asg ?d3 ?d4 ?_ ?_ ?_
 case' d3 => apply me_op op_addM fm_add ?_ me_int
 case' d3 => apply me_ix (ix_M (hu151 hr)) fm_ix ?d6 me_int ?_
 case d6 => exact (me_var (pvk 0 q52))
 case' d4 => apply mg_sub ?d7 me_int ?_
 case d7 => exact (me_var (pvk 0 q52))
 case' d2 => apply mss_cons ?d8 ?d9
 case' d8 => apply ms_if ?d10 ?d11 mss_nil
 case' d10 => apply mt_cmp ?d12 fm_eq ?d13 me_int ?_
 case d12 => exact (op_eqK (hu150 hr))
 case' d13 => apply me_ix (ix_M (hu151 hr)) fm_ix ?d14 me_int ?_
 case d14 => exact (me_var (pvk 0 q52))
 case' d11 => apply mss_cons ?d15 ?d16
 case' d15 => apply ms_set (i := 2) ?d17 ?_ ?d18 me_int ?_ ?_
 case d17 => exact sc__law_draw.nd
 case d18 => exact (Or.inl q54.lk)
 case' d16 => apply mss_cons ?d19 ?d20
 case' d19 => apply ms_if ?d21 ?d22 mss_nil
 case' d21 => apply mt_cmp op_gtA fm_gt ?d23 me_int ?_
 case' d23 => apply me_CB call_lenM fm_len ?d24 ?d25 PySem.boot_len ?d26 ?_ ?_
 case d24 => exact q55
 case d25 => exact T.z_len
 case' d26 => apply ma_1 ?d27 ?_
 case' d27 => apply me_ix (ix_M (hu151 hr)) fm_ix ?d28 me_int ?_
 case d28 => exact (me_var (pvk 0 q52))
 case' d22 => apply mss_one ?_
 case' d22 => apply ms_set (i := 2) ?d30 ?_ ?d31 ?d32 ?_ ?_
 case d30 => exact sc__law_draw.nd
 case d31 => exact (Or.inl q54.lk)
 case' d32 => apply me_ix (ix_M (hu151 hr)) fm_ix ?d33 ?d34 ?_
 case' d33 => apply me_ix (ix_M (hu151 hr)) fm_ix ?d35 me_int ?_
 case d35 => exact (me_var (pvk 0 q52))
 case' d34 => apply me_op op_mod fm_mod ?d36 ?d37
 case' d36 => apply me_ix (ix_M (hu151 hr)) fm_ix ?d38 me_int ?_
 case d38 => exact (me_var (pvk 0 q52))
 case' d37 => apply me_CB call_lenM fm_len ?d39 ?d40 PySem.boot_len ?d41 ?_ ?_
 case d39 => exact q55
 case d40 => exact T.z_len
 case' d41 => apply ma_1 ?d42 ?_
 case' d42 => apply me_ix (ix_M (hu151 hr)) fm_ix ?d43 me_int ?_
 case d43 => exact (me_var (pvk 0 q52))
 case' d20 => apply mss_cons ?d44 ?d45
 case' d44 => apply ms_asg ?d46 ?d47 ?_ ?_ ?_
 case' d46 => apply me_op op_addM fm_add ?_ me_int
 case' d46 => apply me_ix (ix_M (hu151 hr)) fm_ix ?d49 me_int ?_
 case d49 => exact (me_var (pvk 0 q52))
 case' d47 => apply mg_sub ?d50 me_int ?_
 case d50 => exact (me_var (pvk 0 q52))
 case' d45 => apply mss_cons ?d51 ?d52
 case' d51 => apply ms_if ?d53 ?d54 mss_nil
 case' d53 => apply PW.pt ?_
 case' d53 => apply mw_or ?d56 ?d57
 case' d56 => apply mt_cmp op_ltA fm_lt ?d58 ?d59 ?_
 case d58 => exact (me_var (pvk 2 q54))
 case' d59 => apply me_op op_pow fm_pow me_int me_int
 case' d57 => apply mw_or1 ?_
 case' d57 => apply mt_cmp op_gtA fm_gt ?d61 ?d62 ?_
 case' d61 => apply me_ix (ix_M (hu151 hr)) fm_ix ?d63 me_int ?_
 case d63 => exact (me_var (pvk 0 q52))
 case' d62 => apply me_CB call_lenM fm_len ?d64 ?d65 PySem.boot_len ?d66 ?_ ?_
 case d64 => exact q55
 case d65 => exact T.z_len
 case' d66 => apply ma_1 ?d67 ?_
 case' d67 => apply me_ix (ix_M (hu151 hr)) fm_ix ?d68 me_int ?_
 case d68 => exact (me_var (pvk 0 q52))
 case' d54 => apply mss_cons ?d69 ?d70
 case' d69 => apply ms_set (i := 3) ?d71 ?_ ?d72 ?d73 ?_ ?_
 case d71 => exact sc__law_draw.nd
 case d72 => exact (Or.inl q57.lk)
 case' d73 => apply me_op op_addM fm_add ?_ me_int
 case' d73 => apply me_op op_addM fm_add ?d75 ?d76
 case' d75 => apply me_op op_mod fm_mod ?_ me_int
 case d75 => exact (me_var (pvk 2 q54))
 case' d76 => apply me_op op_mulM fm_mul me_int ?_
 case' d76 => apply me_ix (ix_M (hu151 hr)) fm_ix ?d79 me_int ?_
 case d79 => exact (me_var (pvk 0 q52))
 case' d70 => apply mss_cons ?d80 ?d81
 case' d80 => apply ms_set (i := 3) ?d82 ?_ ?d83 ?d84 ?_ ?_
 case d82 => exact sc__law_draw.nd
 case d83 => exact (Or.inl q57.lk)
 case' d84 => apply me_op op_mod fm_mod ?_ me_int
 case' d84 => apply me_op op_mulM fm_mul ?d86 ?d87
 case d86 => exact (me_var (pvk 3 q57))
 case' d87 => apply me_op op_addM fm_add me_int ?_
 case' d87 => apply me_op op_mulM fm_mul me_int ?_
 case' d87 => apply me_ix (ix_M (hu151 hr)) fm_ix ?d90 me_int ?_
 case d90 => exact (me_var (pvk 0 q52))
 case' d81 => apply mss_cons ?d91 ?d92
 case' d91 => apply ms_set (i := 4) ?d93 ?_ ?d94 ?d95 ?_ ?_
 case d93 => exact sc__law_draw.nd
 case d94 => exact (Or.inl q56.lk)
 case' d95 => apply me_op op_mod fm_mod ?_ me_int
 case' d95 => apply me_op op_addM fm_add ?d97 ?d98
 case' d97 => apply me_op op_mulM fm_mul ?d99 ?d100
 case d99 => exact (me_var (pvk 3 q57))
 case' d100 => apply me_op op_addM fm_add ?d101 ?d102
 case' d101 => apply me_op op_mod fm_mod ?_ me_int
 case d101 => exact (me_var (pvk 3 q57))
 case' d102 => apply me_ix (ix_M (hu151 hr)) fm_ix ?d104 me_int ?_
 case d104 => exact (me_var (pvk 0 q52))
 case' d98 => apply me_op op_mulM fm_mul me_int ?_
 case' d98 => apply me_ix (ix_M (hu151 hr)) fm_ix ?d106 me_int ?_
 case d106 => exact (me_var (pvk 0 q52))
 case' d92 => apply mss_one ?_
 case' d92 => apply ms_ret ?_
 case' d92 => apply me_op op_mod fm_mod ?d109 ?d110
 case' d109 => apply me_op op_fdiv fm_div ?_ me_int
 case d109 => exact (me_var (pvk 4 q56))
 case d110 => exact (me_var (pvk 1 q53))
 case' d52 => apply mss_one ?_
 case' d52 => apply ms_asg ?d113 ?d114 ?_ ?_ ?_
 case d113 => exact (me_var (pvk 2 q54))
 case' d114 => apply mg_sub ?d115 me_int ?_
 case d115 => exact (me_var (pvk 0 q52))
 case' d9 => apply mss_cons ?d116 ?d117
 case' d116 => apply ms_set (i := 5) ?d118 ?_ ?d119 ?d120 ?_ ?_
 case d118 => exact sc__law_draw.nd
 case d119 => exact (Or.inl q51.lk)
 case' d120 => apply me_op op_mod fm_mod ?d121 ?d122
 case' d121 => apply me_ix (ix_M (hu151 hr)) fm_ix ?d123 me_int ?_
 case d123 => exact (me_var (pvk 0 q52))
 case d122 => exact (me_var (pvk 1 q53))
 case' d117 => apply mss_cons ?d124 ?d125
 case' d124 => apply ms_asg ?d126 ?d127 ?_ ?_ ?_
 case' d126 => apply me_op op_fdiv fm_div ?d128 ?d129
 case' d128 => apply me_ix (ix_M (hu151 hr)) fm_ix ?d130 me_int ?_
 case d130 => exact (me_var (pvk 0 q52))
 case d129 => exact (me_var (pvk 1 q53))
 case' d127 => apply mg_sub ?d131 me_int ?_
 case d131 => exact (me_var (pvk 0 q52))
 case' d125 => apply mss_one ?_
 case' d125 => apply ms_ret ?_
 case d125 => exact (me_var (pvk 5 q51))
 all_goals (try walk_at "late")
theorem ok__law_word (T : Txt K mg t) : FnOk P w K mg base CX0 2 t.f__law_word t.d__law_word ["_law_hand_here"] (spM K m__law_word) := by
 have C__law_draw := Cal.of (ok__law_draw (P := P) (w := w) (base := base) T) T.m__law_draw T.F__law_draw.kp T.b__law_draw
 refine T.F__law_word.okM (k := 1) sc__law_word rfl fun cdv A outer s H E hr => ?_
 unfold b__law_word
 conv => arg 2; whnf
 apply mss_cons ?d1 ?d2
 case' d1 => apply ms_set (i := 1) ?d3 ?_ ?d4 ?d5 ?_ ?_
 case d3 => exact sc__law_word.nd
 case d4 => exact (Or.inl q61.lk)
 case' d5 => apply me_lst ?_
 case' d5 => apply ma_c4 me_str me_str me_str me_str ?d7 ?_ ?_ ?_ ?_
 case' d7 => apply ma_c4 me_str me_str me_str me_str ?d8 ?_ ?_ ?_ ?_
 case' d8 => apply ma_c4 me_str me_str me_str me_str ?d9 ?_ ?_ ?_ ?_
 case' d9 => apply ma_2 me_str me_str ?_ ?_
 case' d2 => apply mss_cons ?d10 ?d11
 case' d10 => apply ms_if ?d12 ?d13 mss_nil
 case' d12 => apply mt_cmp op_gtA fm_gt ?d14 me_int ?_
 case' d14 => apply me_cal ?d15 ?_ ?d16 ?d17 ?_ ?_
 case d15 => exact C__law_draw
 case d16 => exact q59
 case' d17 => apply ma_2 ?d18 me_int ?_ ?_
 case d18 => exact (me_var (pvk 0 q58))
 case' d13 => apply mss_one ?_
 case' d13 => apply ms_ret ?_
 case' d13 => apply me_ix (ix_M (hu151 hr)) fm_ix ?d21 ?d22 ?_
 case d21 => exact (me_var (pvk 1 q61))
 case' d22 => apply me_cal ?d23 ?_ ?d24 ?d25 ?_ ?_
 case d23 => exact C__law_draw
 case d24 => exact q59
 case' d25 => apply ma_2 ?d26 me_int ?_ ?_
 case d26 => exact (me_var (pvk 0 q58))
 case' d11 => apply mss_one ?_
 case' d11 => apply ms_ret ?_
 case' d11 => apply me_bm PySem.F.plainAttrs_str PySem.F.slot_str_join PySem.F.type_str_join ?d29 ?d30 fm_join me_str ?d31 ?_ ?_ ?_ ?_ ?_
 case d29 => exact mt_join
 case d30 => exact (fun _ _ _ _ _ => isS_ty)
 case' d31 => apply ma_1 ?d32 ?_
 case' d32 => apply me_comp (N' := ["_law_k", "_law_hand_here"]) (ix := [none, some 0]) ?d33 ?_ ?d34 ?d35 ?d36 ?d37 ?d38 ?_
 case d33 => exact ⟨rfl, by decide +kernel, by decide +kernel, comp_free _ _ rfl, rfl, comp_ix _ _ _ _ rfl⟩
 case' d34 => apply cg_name ?_
 case' d35 => apply mi_range1 ?d39 ?d40 ?d41 ?_
 case d39 => exact q60.lk
 case d40 => exact T.z_range
 case' d41 => apply ma_1 ?d42 ?_
 case' d42 => apply me_op op_addM fm_add me_int ?_
 case' d42 => apply me_cal ?d44 ?_ ?d45 ?d46 ?_ ?_
 case d44 => exact C__law_draw
 case d45 => exact q59
 case' d46 => apply ma_2 ?d47 me_int ?_ ?_
 case d47 => exact (me_var (pvk 0 q58))
 case d36 => (intro _ _ _ _; exact (pgo (i := 0) (by walk_at "n") (show List.Nodup (["_law_k", "_law_hand_here"] : List Str) from by decide +kernel) (by rfl)))
 case d37 => (intro _ _ _ _; exact mts_nil)
 case' d38 => (intro _ _ _ _; apply me_ix (ix_M (hu151 hr)) fm_ix me_str ?d48 ?_)
 case' d48 => apply me_cal ?d49 ?_ ?d50 ?d51 ?_ ?_
 case d49 => exact C__law_draw
 case d50 => exact (NmOk.glob (by walk_at "n"))
 case' d51 => apply ma_2 ?d52 me_int ?_ ?_
 case d52 => exact (me_var (pvf 1 (by walk_at "n")))
 all_goals (try walk_at "late")
theorem ok__law_value (T : Txt K mg t) : FnOk P w K mg base CX0 2 t.f__law_value t.d__law_value ["_law_hand_here"] (spM K m__law_value) := by
 have C__law_draw := Cal.of (ok__law_draw (P := P) (w := w) (base := base) T) T.m__law_draw T.F__law_draw.kp T.b__law_draw
 refine T.F__law_value.okM (k := 1) sc__law_value rfl fun cdv A outer s H E hr => ?_
 unfold b__law_value
 conv => arg 2; whnf
 apply mss_cons ?d1 ?d2
 case' d1 => apply ms_set (i := 1) ?d3 ?_ ?d4 ?d5 ?_ ?_
 case d3 => exact sc__law_value.nd
 case d4 => exact (Or.inl q65.lk)
 case' d5 => apply me_ix (ix_M (hu151 hr)) fm_ix ?d6 ?d7 ?_
 case' d6 => apply me_lst ?_
 case' d6 => apply ma_3 ?d9 ?d10 ?d11 ?_ ?_ ?_
 case' d9 => apply me_op op_sub fm_sub ?_ me_int
 case' d9 => apply me_op op_pow fm_pow me_int me_int
 case' d10 => apply me_op op_sub fm_sub me_int ?_
 case' d10 => apply me_op op_pow fm_pow me_int me_int
 case' d11 => apply me_op op_addM fm_add ?d14 ?d15
 case' d14 => apply me_op op_pow fm_pow me_int me_int
 case' d15 => apply me_cal ?d16 ?_ ?d17 ?d18 ?_ ?_
 case d16 => exact C__law_draw
 case d17 => exact q64
 case' d18 => apply ma_2 ?d19 ?d20 ?_ ?_
 case d19 => exact (me_var (pvk 0 q63))
 case' d20 => apply me_op op_pow fm_pow me_int me_int
 case' d7 => apply me_cal ?d21 ?_ ?d22 ?d23 ?_ ?_
 case d21 => exact C__law_draw
 case d22 => exact q64
 case' d23 => apply ma_2 ?d24 me_int ?_ ?_
 case d24 => exact (me_var (pvk 0 q63))
 case' d2 => apply mss_cons ?d25 ?d26
 case' d25 => apply ms_set (i := 2) ?d27 ?_ ?d28 ?d29 ?_ ?_
 case d27 => exact sc__law_value.nd
 case d28 => exact (Or.inl q66.lk)
 case' d29 => apply me_lst ?_
 case' d29 => apply ma_c4 me_str me_str me_str me_str ?d31 ?_ ?_ ?_ ?_
 case' d31 => apply ma_c4 me_str me_str me_str me_str ?d32 ?_ ?_ ?_ ?_
 case' d32 => apply ma_4 me_str me_str me_str me_str ?_ ?_ ?_ ?_
 case' d26 => apply mss_cons ?d33 ?d34
 case' d33 => apply ms_set (i := 3) ?d35 ?_ ?d36 ?d37 ?_ ?_
 case d35 => exact sc__law_value.nd
 case d36 => exact (Or.inl q62.lk)
 case' d37 => apply me_lst ?_
 case' d37 => apply ma_4 ?d39 ?d40 ?d41 ?d42 ?_ ?_ ?_ ?_
 case' d39 => apply me_cal ?d43 ?_ ?d44 ?d45 ?_ ?_
 case d43 => exact C__law_draw
 case d44 => exact q64
 case' d45 => apply ma_2 ?d46 me_int ?_ ?_
 case d46 => exact (me_var (pvk 0 q63))
 case' d40 => apply me_op op_sub fm_sub ?_ me_int
 case' d40 => apply me_cal ?d48 ?_ ?d49 ?d50 ?_ ?_
 case d48 => exact C__law_draw
 case d49 => exact q64
 case' d50 => apply ma_2 ?d51 me_int ?_ ?_
 case d51 => exact (me_var (pvk 0 q63))
 case d41 => exact (me_var (pvk 1 q65))
 case' d42 => apply me_ix (ix_M (hu151 hr)) fm_ix ?d52 ?d53 ?_
 case d52 => exact (me_var (pvk 2 q66))
 case' d53 => apply me_cal ?d54 ?_ ?d55 ?d56 ?_ ?_
 case d54 => exact C__law_draw
 case d55 => exact q64
 case' d56 => apply ma_2 ?d57 me_int ?_ ?_
 case d57 => exact (me_var (pvk 0 q63))
 case' d34 => apply mss_one ?_
 case' d34 => apply ms_ret ?_
 case' d34 => apply me_ix (ix_M (hu151 hr)) fm_ix ?d60 ?d61 ?_
 case d60 => exact (me_var (pvk 3 q62))
 case' d61 => apply me_ix (ix_M (hu151 hr)) fm_ix ?d62 ?d63 ?_
 case' d62 => apply me_lst ?_
 case' d62 => apply ma_c4 me_int me_int me_int me_int ?d65 ?_ ?_ ?_ ?_
 case' d65 => apply ma_1 me_int ?_
 case' d63 => apply me_cal ?d66 ?_ ?d67 ?d68 ?_ ?_
 case d66 => exact C__law_draw
 case d67 => exact q64
 case' d68 => apply ma_2 ?d69 me_int ?_ ?_
 case d69 => exact (me_var (pvk 0 q63))
 all_goals (try walk_at "late")
theorem ok__law_fields (T : Txt K mg t) : FnOk P w K mg base CX0 3 t.f__law_fields t.d__law_fields ["_law_hand_here", "_law_most"] (spM K m__law_fields) := by
 have C__law_draw := Cal.of (ok__law_draw (P := P) (w := w) (base := base) T) T.m__law_draw T.F__law_draw.kp T.b__law_draw
 have C__law_value := Cal.of (ok__law_value (P := P) (w := w) (base := base) T) T.m__law_value T.F__law_value.kp T.b__law_value
 have C__law_word := Cal.of (ok__law_word (P := P) (w := w) (base := base) T) T.m__law_word T.F__law_word.kp T.b__law_word
 have z : FnOk P w K mg base CX0 3 t.f__law_fields t.d__law_fields ["_law_hand_here", "_law_most"] (spM K (mFun 2 2 b__law_fields)) := by
  refine T.F__law_fields.okM (k := 2) sc__law_fields rfl fun cdv A outer s H E hr => ?_
  unfold b__law_fields
  conv => arg 2; whnf
  apply mss_cons ?d1 ?d2
  case' d1 => apply ms_set (i := 2) ?d3 ?_ ?d4 ?d5 ?_ ?_
  case d3 => exact sc__law_fields.nd
  case d4 => exact (Or.inl q67.lk)
  case d5 => exact me_newDH
  case' d2 => apply mss_cons ?d6 ?d7
  case' d6 => apply ms_for ?_ ?_ ?d8 ?d9 ?d10 ?_
  case' d8 => apply mi_range1 ?d11 ?d12 ?d13 ?_
  case d11 => exact q71.lk
  case d12 => exact T.z_range
  case' d13 => apply ma_1 ?d14 ?_
  case' d14 => apply me_cal ?d15 ?_ ?d16 ?d17 ?_ ?_
  case d15 => exact C__law_draw
  case d16 => exact q70
  case' d17 => apply ma_2 ?d18 ?d19 ?_ ?_
  case d18 => exact (me_var (pvk 0 q68))
  case' d19 => apply me_op op_addM fm_add ?_ me_int
  case d19 => exact (me_var (pvk 1 q69))
  case' d9 => apply mg_name ?_
  case' d9 => apply pg_name (i := 3) ?d22 ?_ ?d23 ?_
  case d22 => exact sc__law_fields.nd
  case d23 => exact (Or.inl q72.lk)
  case' d10 => apply mss_one ?_
  case' d10 => apply ms_dput ?d25 ?d26 ?d27 ?d28 ?_
  case d25 => exact (hu1 hr)
  case d26 => exact (me_var (pvk 2 q67))
  case' d27 => apply me_cal ?d29 ?_ ?d30 ?d31 ?_ ?_
  case d29 => exact C__law_word
  case d30 => exact q73
  case' d31 => apply ma_1 ?d32 ?_
  case d32 => exact (me_var (pvk 0 q68))
  case' d28 => apply me_cal ?d33 ?_ ?d34 ?d35 ?_ ?_
  case d33 => exact C__law_value
  case d34 => exact q74
  case' d35 => apply ma_1 ?d36 ?_
  case d36 => exact (me_var (pvk 0 q68))
  case' d7 => apply mss_one ?_
  case' d7 => apply ms_ret ?_
  case d7 => exact (me_var (pvk 2 q67))
  all_goals (try walk_at "late")
 exact z.imp fun _ _ _ _ q => spM_seal q
theorem ok__law_test (T : Txt K mg t) (n : Nat) : FnOk P w K mg base CX0 (n + 2) t.f__law_test t.d__law_test ["_law_hand_here", "_law_deep"] (spM K (m__law_test n)) := by
 induction n with
 | zero => exact FnOk.empty
 | succ n ih =>
   have C__law_draw := Cal.of (ok__law_draw (P := P) (w := w) (base := base) T) T.m__law_draw T.F__law_draw.kp T.b__law_draw
   have C__law_word := Cal.of (ok__law_word (P := P) (w := w) (base := base) T) T.m__law_word T.F__law_word.kp T.b__law_word
   have C__law_value := Cal.of (ok__law_value (P := P) (w := w) (base := base) T) T.m__law_value T.F__law_value.kp T.b__law_value
   have C__law_test := Cal.of ih T.m__law_test T.F__law_test.kp T.b__law_test
   refine FnOk.mono (j := n + 2 + 1) (T.F__law_test.okM (k := n + 2) sc__law_test rfl fun cdv A outer s H E hr => ?_) (by omega)
   unfold b__law_test
   conv => arg 2; whnf
   apply mss_cons ?d1 ?d2
   case' d1 => apply ms_set (i := 2) ?d3 ?_ ?d4 ?d5 ?_ ?_
   case d3 => exact sc__law_test.nd
   case d4 => exact (Or.inl q75.lk)
   case' d5 => apply me_cal ?d6 ?_ ?d7 ?d8 ?_ ?_
   case d6 => exact C__law_draw
   case d7 => exact q81
   case' d8 => apply ma_2 ?d9 me_int ?_ ?_
   case d9 => exact (me_var (pvk 0 q76))
   case' d2 => apply mss_cons ?d10 ?d11
   case' d10 => apply ms_if ?d12 ?d13 mss_nil
   case' d12 => apply PW.pt ?_
   case' d12 => apply mw_or ?d15 ?d16
   case' d15 => apply mt_cmp op_ltA fm_lt ?d17 me_int ?_
   case d17 => exact (me_var (pvk 2 q75))
   case' d16 => apply mw_or1 ?_
   case' d16 => apply PW.pt ?_
   case' d16 => apply mw_and ?d20 ?d21
   case' d20 => apply mt_cmp ?d22 fm_eq ?d23 me_int ?_
   case d22 => exact (op_eqK (hu150 hr))
   case d23 => exact (me_var (pvk 1 q77))
   case' d21 => apply mw_and1 ?_
   case' d21 => apply mt_cmp op_gtA fm_gt ?d25 me_int ?_
   case d25 => exact (me_var (pvk 2 q75))
   case' d13 => apply mss_one ?_
   case' d13 => apply ms_ret ?_
   case' d13 => apply me_ix (ix_M (hu151 hr)) fm_ix ?d28 ?d29 ?_
   case' d28 => apply me_lst ?_
   case' d28 => apply ma_2 ?d31 ?d32 ?_ ?_
   case' d31 => apply me_tup ?_
   case' d31 => apply ma_1 me_str ?_
   case' d32 => apply me_tup ?_
   case' d32 => apply ma_2 me_str ?d35 ?_ ?_
   case' d35 => apply me_cal ?d36 ?_ ?d37 ?d38 ?_ ?_
   case d36 => exact C__law_word
   case d37 => exact q79
   case' d38 => apply ma_1 ?d39 ?_
   case d39 => exact (me_var (pvk 0 q76))
   case' d29 => apply me_op op_fdiv fm_div ?_ me_int
   case' d29 => apply me_cal ?d41 ?_ ?d42 ?d43 ?_ ?_
   case d41 => exact C__law_draw
   case d42 => exact q81
   case' d43 => apply ma_2 ?d44 me_int ?_ ?_
   case d44 => exact (me_var (pvk 0 q76))
   case' d11 => apply mss_cons ?d45 ?d46
   case' d45 => apply ms_if ?d47 ?d48 mss_nil
   case' d47 => apply mt_cmp op_ltA fm_lt ?d49 me_int ?_
   case d49 => exact (me_var (pvk 2 q75))
   case' d48 => apply mss_one ?_
   case' d48 => apply ms_ret ?_
   case' d48 => apply me_tup ?_
   case' d48 => apply ma_3 ?d53 ?d54 ?d55 ?_ ?_ ?_
   case' d53 => apply me_ix (ix_M (hu151 hr)) fm_ix ?d56 ?d57 ?_
   case' d56 => apply me_lst ?_
   case' d56 => apply ma_4 me_str me_str me_str me_str ?_ ?_ ?_ ?_
   case' d57 => apply me_op op_sub fm_sub ?_ me_int
   case d57 => exact (me_var (pvk 2 q75))
   case' d54 => apply me_cal ?d60 ?_ ?d61 ?d62 ?_ ?_
   case d60 => exact C__law_word
   case d61 => exact q79
   case' d62 => apply ma_1 ?d63 ?_
   case d63 => exact (me_var (pvk 0 q76))
   case' d55 => apply me_cal ?d64 ?_ ?d65 ?d66 ?_ ?_
   case d64 => exact C__law_value
   case d65 => exact q80
   case' d66 => apply ma_1 ?d67 ?_
   case d67 => exact (me_var (pvk 0 q76))
   case' d46 => apply mss_cons ?d68 ?d69
   case' d68 => apply ms_if ?d70 ?d71 mss_nil
   case' d70 => apply mt_cmp ?d72 fm_eq ?d73 me_int ?_
   case d72 => exact (op_eqK (hu150 hr))
   case d73 => exact (me_var (pvk 2 q75))
   case' d71 => apply mss_one ?_
   case' d71 => apply ms_ret ?_
   case' d71 => apply me_tup ?_
   case' d71 => apply ma_2 me_str ?d77 ?_ ?_
   case' d77 => apply me_cal ?d78 ?_ ?d79 ?d80 ?_ ?_
   case d78 => exact C__law_test
   case d79 => exact q78
   case' d80 => apply ma_2 ?d81 ?d82 ?_ ?_
   case d81 => exact (me_var (pvk 0 q76))
   case' d82 => apply me_op op_sub fm_sub ?_ me_int
   case d82 => exact (me_var (pvk 1 q77))
   case' d69 => apply mss_one ?_
   case' d69 => apply ms_ret ?_
   case' d69 => apply me_tup ?_
   case' d69 => apply ma_3 ?d87 ?d88 ?d89 ?_ ?_ ?_
   case' d87 => apply me_ix (ix_M (hu151 hr)) fm_ix ?d90 ?d91 ?_
   case' d90 => apply me_lst ?_
   case' d90 => apply ma_2 me_str me_str ?_ ?_
   case' d91 => apply me_op op_sub fm_sub ?_ me_int
   case d91 => exact (me_var (pvk 2 q75))
   case' d88 => apply me_cal ?d94 ?_ ?d95 ?d96 ?_ ?_
   case d94 => exact C__law_test
   case d95 => exact q78
   case' d96 => apply ma_2 ?d97 ?d98 ?_ ?_
   case d97 => exact (me_var (pvk 0 q76))
   case' d98 => apply me_op op_sub fm_sub ?_ me_int
   case d98 => exact (me_var (pvk 1 q77))
   case' d89 => apply me_cal ?d100 ?_ ?d101 ?d102 ?_ ?_
   case d100 => exact C__law_test
   case d101 => exact q78
   case' d102 => apply ma_2 ?d103 ?d104 ?_ ?_
   case d103 => exact (me_var (pvk 0 q76))
   case' d104 => apply me_op op_sub fm_sub ?_ me_int
   case d104 => exact (me_var (pvk 1 q77))
   all_goals (try walk_at "late")
theorem ok__law_is_number (T : Txt K mg t) : FnOk P w K mg base CX0 1 t.f__law_is_number t.d__law_is_number ["_law_thing"] (spM K m__law_is_number) := by
 refine T.F__law_is_number.okM (k := 0) sc__law_is_number rfl fun cdv A outer s H E hr => ?_
 unfold b__law_is_number
 conv => arg 2; whnf
 apply mss_one ?_
 apply ms_ret ?_
 apply me_and ?d3 ?d4
 case' d3 => apply me_CB call_instM fm_inst ?d5 ?d6 PyProof.Rows.boot_isinstance ?d7 ?_ ?_
 case d5 => exact q84
 case d6 => exact T.z_isinstance
 case' d7 => apply ma_2 ?d8 ?d9 ?_ ?_
 case d8 => exact (me_var (pvk 0 q82))
 case' d9 => apply me_C ?d10 ?_
 case' d10 => apply pe_bltnk (v := .ty "int") ?d11 ?d12 ?_ ?_
 case d11 => exact q85
 case d12 => exact T.z_int
 case' d4 => apply me_one ?_
 case' d4 => apply me_not ?_
 case' d4 => apply me_CB call_instM fm_inst ?d15 ?d16 PyProof.Rows.boot_isinstance ?d17 ?_ ?_
 case d15 => exact q84
 case d16 => exact T.z_isinstance
 case' d17 => apply ma_2 ?d18 ?d19 ?_ ?_
 case d18 => exact (me_var (pvk 0 q82))
 case' d19 => apply me_C ?d20 ?_
 case' d20 => apply pe_bltnk (v := .ty "bool") ?d21 ?d22 ?_ ?_
 case d21 => exact q83
 case d22 => exact T.z_bool
 all_goals (try walk_at "late")
theorem ok__law_of_value (T : Txt K mg t) : FnOk P w K mg base CX0 19 t.f__law_of_value t.d__law_of_value ["_law_fields_here", "_law_name", "_law_value_here"] (spM K m__law_of_value) := by
 have C_fits := Cal.of (ok_fits (P := P) (w := w) (base := base) T) T.m_fits T.F_fits.kp T.b_fits
 have C__law_is_number := Cal.of (ok__law_is_number (P := P) (w := w) (base := base) T) T.m__law_is_number T.F__law_is_number.kp T.b__law_is_number
 have C_before := Cal.of (ok_before (P := P) (w := w) (base := base) T) T.m_before T.F_before.kp T.b_before
 refine T.F__law_of_value.okM (k := 18) sc__law_of_value rfl fun cdv A outer s H E hr => ?_
 unfold b__law_of_value
 conv => arg 2; whnf
 apply mss_cons ?d1 ?d2
 case' d1 => apply ms_setC (k := 3) ?d3 ?_ ?d4 (N' := ["_law_word_here", "_law_fields_here", "_law_name", "_law_value_here"]) (ix := [none, some 0, some 1, some 2]) ?d5 ?_ ?d6 ?d7 ?d8 ?d9 ?d10 ?_ ?_
 case d3 => exact sc__law_of_value.nd
 case d4 => exact q86.lk
 case d5 => exact ⟨rfl, by decide +kernel, by decide +kernel, comp_free _ _ rfl, rfl, comp_ix _ _ _ _ rfl⟩
 case' d6 => apply cg_name ?_
 case' d7 => apply mi_tup ?_
 case' d7 => apply me_tup ?_
 case' d7 => apply ma_3 me_str me_str me_str ?_ ?_ ?_
 case d8 => (intro _ _ _ _; exact (pgo (i := 0) (by walk_at "n") (show List.Nodup (["_law_word_here", "_law_fields_here", "_law_name", "_law_value_here"] : List Str) from by decide +kernel) (by rfl)))
 case d9 => (intro _ _ _ _; exact mts_nil)
 case' d10 => (intro _ _ _ _; apply me_cal ?d13 ?_ ?d14 ?d15 ?_ ?_)
 case d13 => exact C_fits
 case d14 => exact (NmOk.glob (by walk_at "n"))
 case' d15 => apply ma_2 ?d16 ?d17 ?_ ?_
 case' d16 => apply me_tup ?_
 case' d16 => apply ma_3 ?d19 ?d20 ?d21 ?_ ?_ ?_
 case d19 => exact (me_var (pvk 0 (NmOk.own (by walk_at "n"))))
 case d20 => exact (me_var (pvf 2 (by walk_at "n")))
 case d21 => exact (me_var (pvf 3 (by walk_at "n")))
 case d17 => exact (me_var (pvf 1 (by walk_at "n")))
 case' d2 => apply mss_cons ?d22 ?d23
 case' d22 => apply ms_set (i := 4) ?d24 ?_ ?d25 ?d26 ?_ ?_
 case d24 => exact sc__law_of_value.nd
 case d25 => exact (Or.inl q92.lk)
 case' d26 => apply me_and ?d27 ?d28
 case' d27 => apply me_cmp ?d29 fm_in ?d30 ?d31 ?_
 case d29 => exact (op_inM (hu151 hr))
 case d30 => exact (me_var (pvk 1 q91))
 case d31 => exact (me_var (pvk 0 q90))
 case' d28 => apply me_one ?_
 case' d28 => apply me_cmp ?d33 fm_eq ?d34 ?d35 ?_
 case d33 => exact (op_eqK (hu150 hr))
 case' d34 => apply me_cal ?d36 ?_ ?d37 ?d38 ?_ ?_
 case d36 => exact C__law_is_number
 case d37 => exact q95
 case' d38 => apply ma_1 ?d39 ?_
 case' d39 => apply me_ix (ix_M (hu151 hr)) fm_ix ?d40 ?d41 ?_
 case d40 => exact (me_var (pvk 0 q90))
 case d41 => exact (me_var (pvk 1 q91))
 case' d35 => apply me_cal ?d42 ?_ ?d43 ?d44 ?_ ?_
 case d42 => exact C__law_is_number
 case d43 => exact q95
 case' d44 => apply ma_1 ?d45 ?_
 case d45 => exact (me_var (pvk 2 q88))
 case' d23 => apply mss_cons ?d46 ?d47
 case' d46 => apply ms_if ?d48 ?d49 mss_nil
 case' d48 => apply PW.pt ?_
 case' d48 => apply mw_or ?d51 ?d52
 case' d51 => apply mt_cmp ?d53 fm_ne ?d54 ?d55 ?_
 case d53 => exact (op_neK (hu151 hr))
 case' d54 => apply me_bm PySem.F.plainAttrs_list PySem.F.slot_list_count PySem.F.type_list_count ?d56 ?d57 fm_count ?d58 ?d59 ?_ ?_ ?_ ?_ ?_
 case' d56 => apply mt_countM ?_
 case d56 => exact (hu151 hr)
 case d57 => exact (fun _ _ _ _ _ => isL_ty)
 case d58 => exact (me_var (pvk 3 q86))
 case' d59 => apply ma_1 me_bl ?_
 case' d55 => apply me_CTy call_int1 fm_int ?d61 ?d62 ?_ ?d63 ?_ ?_
 case d61 => exact q94
 case d62 => exact T.z_int
 case' d63 => apply ma_1 ?d64 ?_
 case d64 => exact (me_var (pvk 4 q92))
 case' d52 => apply mw_or1 ?_
 case' d52 => apply mt_cmp ?d66 fm_ne ?d67 ?d68 ?_
 case d66 => exact (op_neK (hu151 hr))
 case' d67 => apply me_cal ?d69 ?_ ?d70 ?d71 ?_ ?_
 case d69 => exact C_fits
 case d70 => exact q93
 case' d71 => apply ma_2 ?d72 ?d73 ?_ ?_
 case' d72 => apply me_tup ?_
 case' d72 => apply ma_2 me_str ?d75 ?_ ?_
 case d75 => exact (me_var (pvk 1 q91))
 case d73 => exact (me_var (pvk 0 q90))
 case' d68 => apply me_cmp ?d76 fm_in ?d77 ?d78 ?_
 case d76 => exact (op_inM (hu151 hr))
 case d77 => exact (me_var (pvk 1 q91))
 case d78 => exact (me_var (pvk 0 q90))
 case' d49 => apply mss_one ?_
 case' d49 => apply ms_ret me_bl
 case' d47 => apply mss_cons ?d80 ?d81
 case' d80 => apply ms_if ?d82 ?d83 mss_nil
 case' d82 => apply mt_not ?_
 case' d82 => apply mt_val ?d85 ?_
 case d85 => exact (me_var (pvk 4 q92))
 case' d83 => apply mss_one ?_
 case' d83 => apply ms_ret me_bl
 case' d81 => apply mss_cons ?d87 ?d88
 case' d87 => apply ms_set (i := 5) ?d89 ?_ ?d90 ?d91 ?_ ?_
 case d89 => exact sc__law_of_value.nd
 case d90 => exact (Or.inl q87.lk)
 case' d91 => apply me_ix (ix_M (hu151 hr)) fm_ix ?d92 ?d93 ?_
 case d92 => exact (me_var (pvk 0 q90))
 case d93 => exact (me_var (pvk 1 q91))
 case' d88 => apply mss_one ?_
 case' d88 => apply ms_ret ?_
 case' d88 => apply me_cmp ?d96 fm_eq ?d97 ?d98 ?_
 case d96 => exact (op_eqK (hu150 hr))
 case d97 => exact (me_var (pvk 3 q86))
 case' d98 => apply me_lst ?_
 case' d98 => apply ma_3 ?d100 ?d101 ?d102 ?_ ?_ ?_
 case' d100 => apply me_cmp ?d103 fm_eq ?d104 ?d105 ?_
 case d103 => exact (op_eqK (hu150 hr))
 case d104 => exact (me_var (pvk 5 q87))
 case d105 => exact (me_var (pvk 2 q88))
 case' d101 => apply me_cal ?d106 ?_ ?d107 ?d108 ?_ ?_
 case d106 => exact C_before
 case d107 => exact q89
 case' d108 => apply ma_2 ?d109 ?d110 ?_ ?_
 case d109 => exact (me_var (pvk 5 q87))
 case d110 => exact (me_var (pvk 2 q88))
 case' d102 => apply me_cal ?d111 ?_ ?d112 ?d113 ?_ ?_
 case d111 => exact C_before
 case d112 => exact q89
 case' d113 => apply ma_2 ?d114 ?d115 ?_ ?_
 case d114 => exact (me_var (pvk 2 q88))
 case d115 => exact (me_var (pvk 5 q87))
 all_goals (try walk_at "late")
theorem ok__law_joined (T : Txt K mg t) : FnOk P w K mg base CX0 1 t.f__law_joined t.d__law_joined ["_law_word_here", "_law_tests"] (spM K m__law_joined) := by
 refine T.F__law_joined.okM (k := 0) sc__law_joined rfl fun cdv A outer s H E hr => ?_
 unfold b__law_joined
 conv => arg 2; whnf
 apply mss_cons ?d1 ?d2
 case' d1 => apply ms_set (i := 2) ?d3 ?_ ?d4 ?d5 ?_ ?_
 case d3 => exact sc__law_joined.nd
 case d4 => exact (Or.inl q96.lk)
 case' d5 => apply me_ix (ix_M (hu151 hr)) fm_ix ?d6 me_int ?_
 case d6 => exact (me_var (pvk 1 q97))
 case' d2 => apply mss_cons ?d7 ?d8
 case' d7 => apply ms_for ?_ ?_ ?d9 ?d10 ?d11 ?_
 case' d9 => apply mi_enumerate ?d12 ?d13 ?d14 ?_ ?_
 case d12 => exact q98
 case d13 => exact T.z_enumerate
 case' d14 => apply ma_1 ?d15 ?_
 case' d15 => apply me_slice sl_M fm_sl ?d16 ?d17 mo_none
 case d16 => exact (me_var (pvk 1 q97))
 case' d17 => apply mo_some me_int
 case' d10 => apply mg_tup ?_ ?d18 ?_ ?_
 case' d18 => apply mgs_cons ?d19 ?d20 ?_
 case' d19 => apply mg_name ?_
 case' d19 => apply pg_name (i := 3) ?d22 ?_ ?d23 ?_
 case d22 => exact sc__law_joined.nd
 case d23 => exact (Or.inl q100.lk)
 case' d20 => apply mgs_cons ?d24 mgs_nil ?_
 case' d24 => apply mg_name ?_
 case' d24 => apply pg_name (i := 4) ?d26 ?_ ?d27 ?_
 case d26 => exact sc__law_joined.nd
 case d27 => exact (Or.inl q99.lk)
 case' d11 => apply mss_one ?_
 case' d11 => apply ms_set (i := 2) ?d29 ?_ ?d30 ?d31 ?_ ?_
 case d29 => exact sc__law_joined.nd
 case d30 => exact (Or.inl q96.lk)
 case' d31 => apply me_ix (ix_M (hu151 hr)) fm_ix ?d32 ?d33 ?_
 case' d32 => apply me_lst ?_
 case' d32 => apply ma_2 ?d35 ?d36 ?_ ?_
 case' d35 => apply me_tup ?_
 case' d35 => apply ma_3 ?d38 ?d39 ?d40 ?_ ?_ ?_
 case d38 => exact (me_var (pvk 0 q101))
 case d39 => exact (me_var (pvk 2 q96))
 case d40 => exact (me_var (pvk 4 q99))
 case' d36 => apply me_tup ?_
 case' d36 => apply ma_3 ?d42 ?d43 ?d44 ?_ ?_ ?_
 case d42 => exact (me_var (pvk 0 q101))
 case d43 => exact (me_var (pvk 4 q99))
 case d44 => exact (me_var (pvk 2 q96))
 case' d33 => apply me_op op_mod fm_mod ?_ me_int
 case d33 => exact (me_var (pvk 3 q100))
 case' d8 => apply mss_one ?_
 case' d8 => apply ms_ret ?_
 case d8 => exact (me_var (pvk 2 q96))
 all_goals (try walk_at "late")
theorem ok_law (T : Txt K mg t) : FnOk P w K mg base CX0 20 t.f_law t.d_law ["_law_script"] (spM K m_law) := by
 have C__law_hand := Cal.of (ok__law_hand (P := P) (w := w) (base := base) T) T.m__law_hand T.F__law_hand.kp T.b__law_hand
 have C__law_fields := Cal.of (ok__law_fields (P := P) (w := w) (base := base) T) T.m__law_fields T.F__law_fields.kp T.b__law_fields
 have C_fields_told := Cal.of (ok_fields_told (P := P) (w := w) (base := base) T) T.m_fields_told T.F_fields_told.kp T.b_fields_told
 have C__law_draw := Cal.of (ok__law_draw (P := P) (w := w) (base := base) T) T.m__law_draw T.F__law_draw.kp T.b__law_draw
 have C__law_of_value := Cal.of (ok__law_of_value (P := P) (w := w) (base := base) T) T.m__law_of_value T.F__law_of_value.kp T.b__law_of_value
 have C__law_test := Cal.of (ok__law_test (P := P) (w := w) (base := base) T 8) T.m__law_test T.F__law_test.kp T.b__law_test
 have C_fits := Cal.of (ok_fits (P := P) (w := w) (base := base) T) T.m_fits T.F_fits.kp T.b_fits
 have C__law_value := Cal.of (ok__law_value (P := P) (w := w) (base := base) T) T.m__law_value T.F__law_value.kp T.b__law_value
 have C__law_joined := Cal.of (ok__law_joined (P := P) (w := w) (base := base) T) T.m__law_joined T.F__law_joined.kp T.b__law_joined
 have C_is_test := Cal.of (ok_is_test (P := P) (w := w) (base := base) T 14) T.m_is_test T.F_is_test.kp T.b_is_test
 have C__law_word := Cal.of (ok__law_word (P := P) (w := w) (base := base) T) T.m__law_word T.F__law_word.kp T.b__law_word
 refine T.F_law.okM (k := 19) sc_law rfl fun cdv A outer s H E hr => ?_
 unfold b_law
 conv => arg 2; whnf
 apply mss_cons ?d1 ?d2
 case' d1 => apply ms_set (i := 1) ?d3 ?_ ?d4 ?d5 ?_ ?_
 case d3 => exact sc_law.nd
 case d4 => exact (Or.inr q111.lk)
 case' d5 => apply me_cal ?d6 ?_ ?d7 ?d8 ?_ ?_
 case d6 => exact C__law_hand
 case d7 => exact q129
 case' d8 => apply ma_1 ?d9 ?_
 case d9 => exact (me_var (pvk 0 q128))
 case' d2 => apply mss_cons ?d10 ?d11
 case' d10 => apply ms_for ?_ ?_ ?d12 ?d13 ?d14 ?_
 case' d12 => apply mi_range1 ?d15 ?d16 ?d17 ?_
 case d15 => exact q102.lk
 case d16 => exact T.z_range
 case' d17 => apply ma_1 me_int ?_
 case' d13 => apply mg_name ?_
 case' d13 => apply pg_name (i := 2) ?d19 ?_ ?d20 ?_
 case d19 => exact sc_law.nd
 case d20 => exact (Or.inl q103.lk)
 case' d14 => apply mss_cons ?d21 ?d22
 case' d21 => apply ms_set (i := 3) ?d23 ?_ ?d24 ?d25 ?_ ?_
 case d23 => exact sc_law.nd
 case d24 => exact (Or.inr q114.lk)
 case' d25 => apply me_cal ?d26 ?_ ?d27 ?d28 ?_ ?_
 case d26 => exact C__law_fields
 case d27 => exact q127
 case' d28 => apply ma_2 ?d29 me_int ?_ ?_
 case d29 => exact (me_var (pvk 1 q111))
 case' d22 => apply mss_cons ?d30 ?d31
 case' d30 => apply ms_set (i := 4) ?d32 ?_ ?d33 ?d34 ?_ ?_
 case d32 => exact sc_law.nd
 case d33 => exact (Or.inl q120.lk)
 case' d34 => apply me_ix (ix_M (hu151 hr)) fm_ix ?d35 ?d36 ?_
 case' d35 => apply me_op op_addM fm_add ?d37 ?d38
 case' d37 => apply me_CB ?d39 fm_sortD ?d40 ?d41 PyProof.Rows.boot_sorted ?d42 ?_ ?_
 case d39 => exact (call_sortD rfl)
 case d40 => exact q124
 case d41 => exact T.z_sorted
 case' d42 => apply ma_1 ?d43 ?_
 case d43 => exact (me_var (pvk 3 q114))
 case' d38 => apply me_lst ?_
 case' d38 => apply ma_1 ?d45 ?_
 case' d45 => apply me_cal ?d46 ?_ ?d47 ?d48 ?_ ?_
 case d46 => exact C__law_word
 case d47 => exact q125
 case' d48 => apply ma_1 ?d49 ?_
 case d49 => exact (me_var (pvk 1 q111))
 case' d36 => apply me_cal ?d50 ?_ ?d51 ?d52 ?_ ?_
 case d50 => exact C__law_draw
 case d51 => exact q112
 case' d52 => apply ma_2 ?d53 ?d54 ?_ ?_
 case d53 => exact (me_var (pvk 1 q111))
 case' d54 => apply me_op op_addM fm_add ?_ me_int
 case' d54 => apply me_CB call_lenM fm_len ?d56 ?d57 PySem.boot_len ?d58 ?_ ?_
 case d56 => exact q126
 case d57 => exact T.z_len
 case' d58 => apply ma_1 ?d59 ?_
 case d59 => exact (me_var (pvk 3 q114))
 case' d31 => apply mss_cons ?d60 ?d61
 case' d60 => apply ms_set (i := 5) ?d62 ?_ ?d63 ?d64 ?_ ?_
 case d62 => exact sc_law.nd
 case d63 => exact (Or.inl q121.lk)
 case' d64 => apply me_ix (ix_M (hu151 hr)) fm_ix ?d65 ?d66 ?_
 case' d65 => apply me_lst ?_
 case' d65 => apply ma_2 ?d68 ?d69 ?_ ?_
 case' d68 => apply me_cal ?d70 ?_ ?d71 ?d72 ?_ ?_
 case d70 => exact C__law_value
 case d71 => exact q123
 case' d72 => apply ma_1 ?d73 ?_
 case d73 => exact (me_var (pvk 1 q111))
 case' d69 => apply me_bm PySem.F.plainAttrs_dict PySem.F.slot_dict_get PySem.F.type_dict_get ?d74 ?d75 fm_dget ?d76 ?d77 ?_ ?_ ?_ ?_ ?_
 case' d74 => apply mt_dget ?_
 case d74 => exact (hu1 hr)
 case d75 => exact (fun _ _ _ _ _ => isD_ty)
 case d76 => exact (me_var (pvk 3 q114))
 case' d77 => apply ma_2 ?d79 me_int ?_ ?_
 case d79 => exact (me_var (pvk 4 q120))
 case' d66 => apply me_cal ?d80 ?_ ?d81 ?d82 ?_ ?_
 case d80 => exact C__law_draw
 case d81 => exact q112
 case' d82 => apply ma_2 ?d83 me_int ?_ ?_
 case d83 => exact (me_var (pvk 1 q111))
 case' d61 => apply mss_cons ?d84 ?d85
 case' d84 => apply ms_if ?d86 ?d87 mss_nil
 case' d86 => apply mt_not ?_
 case' d86 => apply mt_val ?d89 ?_
 case' d89 => apply me_cal ?d90 ?_ ?d91 ?d92 ?_ ?_
 case d90 => exact C__law_of_value
 case d91 => exact q122
 case' d92 => apply ma_3 ?d93 ?d94 ?d95 ?_ ?_ ?_
 case d93 => exact (me_var (pvk 3 q114))
 case d94 => exact (me_var (pvk 4 q120))
 case d95 => exact (me_var (pvk 5 q121))
 case' d87 => apply mss_one ?_
 case' d87 => apply ms_ret me_bl
 case' d85 => apply mss_cons ?d97 ?d98
 case' d97 => apply ms_par (i := 6) (j := 7) ?_ ?d99 ?_ ?_ ?_ ?d100 ?d101 ?d102 ?_ ?_
 case d99 => exact sc_law.nd
 case d100 => exact q104.lk
 case d101 => exact q113.lk
 case' d102 => apply ma_2 ?d103 ?d104 ?_ ?_
 case' d103 => apply me_cal ?d105 ?_ ?d106 ?d107 ?_ ?_
 case d105 => exact C__law_test
 case d106 => exact q119
 case' d107 => apply ma_2 ?d108 me_int ?_ ?_
 case d108 => exact (me_var (pvk 1 q111))
 case' d104 => apply me_cal ?d109 ?_ ?d110 ?d111 ?_ ?_
 case d109 => exact C__law_test
 case d110 => exact q119
 case' d111 => apply ma_2 ?d112 me_int ?_ ?_
 case d112 => exact (me_var (pvk 1 q111))
 case' d98 => apply mss_cons ?d113 ?d114
 case' d113 => apply ms_set (i := 8) ?d115 ?_ ?d116 ?d117 ?_ ?_
 case d115 => exact sc_law.nd
 case d116 => exact (Or.inr q108.lk)
 case' d117 => apply me_cal ?d118 ?_ ?d119 ?d120 ?_ ?_
 case d118 => exact C_fields_told
 case d119 => exact q118
 case' d120 => apply ma_1 ?d121 ?_
 case d121 => exact (me_var (pvk 3 q114))
 case' d114 => apply mss_cons ?d122 ?d123
 case' d122 => apply ms_setC (k := 9) ?d124 ?_ ?d125 (N' := ["_law_test_here", "_law_pairs"]) (ix := [none, some 8]) ?d126 ?_ ?d127 ?d128 ?d129 ?d130 ?d131 ?_ ?_
 case d124 => exact sc_law.nd
 case d125 => exact q117.lk
 case d126 => exact ⟨rfl, by decide +kernel, by decide +kernel, comp_free _ _ rfl, rfl, comp_ix _ _ _ _ rfl⟩
 case' d127 => apply cg_name ?_
 case' d128 => apply mi_tup ?_
 case' d128 => apply me_tup ?_
 case' d128 => apply ma_2 ?d134 ?d135 ?_ ?_
 case d134 => exact (me_var (pvk 6 q104))
 case d135 => exact (me_var (pvk 7 q113))
 case d129 => (intro _ _ _ _; exact (pgo (i := 0) (by walk_at "n") (show List.Nodup (["_law_test_here", "_law_pairs"] : List Str) from by decide +kernel) (by rfl)))
 case d130 => (intro _ _ _ _; exact mts_nil)
 case' d131 => (intro _ _ _ _; apply me_cal ?d136 ?_ ?d137 ?d138 ?_ ?_)
 case d136 => exact C_fits
 case d137 => exact (NmOk.glob (by walk_at "n"))
 case' d138 => apply ma_2 ?d139 ?d140 ?_ ?_
 case' d139 => apply me_tup ?_
 case' d139 => apply ma_2 me_str ?d142 ?_ ?_
 case d142 => exact (me_var (pvk 0 (NmOk.own (by walk_at "n"))))
 case d140 => exact (me_var (pvf 1 (by walk_at "n")))
 case' d123 => apply mss_cons ?d143 ?d144
 case' d143 => apply ms_if ?d145 ?d146 mss_nil
 case' d145 => apply mt_cmp ?d147 fm_ne ?d148 ?d149 ?_
 case d147 => exact (op_neK (hu151 hr))
 case d148 => exact (me_var (pvk 9 q117))
 case' d149 => apply me_lst ?_
 case' d149 => apply ma_2 ?d151 ?d152 ?_ ?_
 case' d151 => apply me_not ?_
 case' d151 => apply me_cal ?d154 ?_ ?d155 ?d156 ?_ ?_
 case d154 => exact C_fits
 case d155 => exact q109
 case' d156 => apply ma_2 ?d157 ?d158 ?_ ?_
 case d157 => exact (me_var (pvk 6 q104))
 case d158 => exact (me_var (pvk 3 q114))
 case' d152 => apply me_not ?_
 case' d152 => apply me_cal ?d160 ?_ ?d161 ?d162 ?_ ?_
 case d160 => exact C_fits
 case d161 => exact q109
 case' d162 => apply ma_2 ?d163 ?d164 ?_ ?_
 case d163 => exact (me_var (pvk 7 q113))
 case d164 => exact (me_var (pvk 3 q114))
 case' d146 => apply mss_one ?_
 case' d146 => apply ms_ret me_bl
 case' d144 => apply mss_cons ?d166 ?d167
 case' d166 => apply ms_par (i := 10) (j := 11) ?_ ?d168 ?_ ?_ ?_ ?d169 ?d170 ?d171 ?_ ?_
 case d168 => exact sc_law.nd
 case d169 => exact q115.lk
 case d170 => exact q116.lk
 case' d171 => apply ma_2 ?d172 ?d173 ?_ ?_
 case' d172 => apply me_tup ?_
 case' d172 => apply ma_2 me_str ?d175 ?_ ?_
 case d175 => exact (me_var (pvk 6 q104))
 case' d173 => apply me_tup ?_
 case' d173 => apply ma_2 me_str ?d177 ?_ ?_
 case d177 => exact (me_var (pvk 7 q113))
 case' d167 => apply mss_cons ?d178 ?d179
 case' d178 => apply ms_if ?d180 ?d181 mss_nil
 case' d180 => apply mt_cmp ?d182 fm_ne ?d183 ?d184 ?_
 case d182 => exact (op_neK (hu151 hr))
 case' d183 => apply me_cal ?d185 ?_ ?d186 ?d187 ?_ ?_
 case d185 => exact C_fits
 case d186 => exact q109
 case' d187 => apply ma_2 ?d188 ?d189 ?_ ?_
 case' d188 => apply me_tup ?_
 case' d188 => apply ma_2 me_str ?d191 ?_ ?_
 case' d191 => apply me_tup ?_
 case' d191 => apply ma_3 me_str ?d193 ?d194 ?_ ?_ ?_
 case d193 => exact (me_var (pvk 6 q104))
 case d194 => exact (me_var (pvk 7 q113))
 case d189 => exact (me_var (pvk 3 q114))
 case' d184 => apply me_cal ?d195 ?_ ?d196 ?d197 ?_ ?_
 case d195 => exact C_fits
 case d196 => exact q109
 case' d197 => apply ma_2 ?d198 ?d199 ?_ ?_
 case' d198 => apply me_tup ?_
 case' d198 => apply ma_3 me_str ?d201 ?d202 ?_ ?_ ?_
 case d201 => exact (me_var (pvk 10 q115))
 case d202 => exact (me_var (pvk 11 q116))
 case d199 => exact (me_var (pvk 3 q114))
 case' d181 => apply mss_one ?_
 case' d181 => apply ms_ret me_bl
 case' d179 => apply mss_cons ?d204 ?d205
 case' d204 => apply ms_if ?d206 ?d207 mss_nil
 case' d206 => apply mt_cmp ?d208 fm_ne ?d209 ?d210 ?_
 case d208 => exact (op_neK (hu151 hr))
 case' d209 => apply me_cal ?d211 ?_ ?d212 ?d213 ?_ ?_
 case d211 => exact C_fits
 case d212 => exact q109
 case' d213 => apply ma_2 ?d214 ?d215 ?_ ?_
 case' d214 => apply me_tup ?_
 case' d214 => apply ma_2 me_str ?d217 ?_ ?_
 case' d217 => apply me_tup ?_
 case' d217 => apply ma_3 me_str ?d219 ?d220 ?_ ?_ ?_
 case d219 => exact (me_var (pvk 6 q104))
 case d220 => exact (me_var (pvk 7 q113))
 case d215 => exact (me_var (pvk 3 q114))
 case' d210 => apply me_cal ?d221 ?_ ?d222 ?d223 ?_ ?_
 case d221 => exact C_fits
 case d222 => exact q109
 case' d223 => apply ma_2 ?d224 ?d225 ?_ ?_
 case' d224 => apply me_tup ?_
 case' d224 => apply ma_3 me_str ?d227 ?d228 ?_ ?_ ?_
 case d227 => exact (me_var (pvk 10 q115))
 case d228 => exact (me_var (pvk 11 q116))
 case d225 => exact (me_var (pvk 3 q114))
 case' d207 => apply mss_one ?_
 case' d207 => apply ms_ret me_bl
 case' d205 => apply mss_cons ?d230 ?d231
 case' d230 => apply ms_setC (k := 12) ?d232 ?_ ?d233 (N' := ["_law_k", "_law_hand_here"]) (ix := [none, some 1]) ?d234 ?_ ?d235 ?d236 ?d237 ?d238 ?d239 ?_ ?_
 case d232 => exact sc_law.nd
 case d233 => exact q106.lk
 case d234 => exact ⟨rfl, by decide +kernel, by decide +kernel, comp_free _ _ rfl, rfl, comp_ix _ _ _ _ rfl⟩
 case' d235 => apply cg_name ?_
 case' d236 => apply mi_range1 ?d240 ?d241 ?d242 ?_
 case d240 => exact q102.lk
 case d241 => exact T.z_range
 case' d242 => apply ma_1 ?d243 ?_
 case' d243 => apply me_op op_addM fm_add me_int ?_
 case' d243 => apply me_cal ?d245 ?_ ?d246 ?d247 ?_ ?_
 case d245 => exact C__law_draw
 case d246 => exact q112
 case' d247 => apply ma_2 ?d248 me_int ?_ ?_
 case d248 => exact (me_var (pvk 1 q111))
 case d237 => (intro _ _ _ _; exact (pgo (i := 0) (by walk_at "n") (show List.Nodup (["_law_k", "_law_hand_here"] : List Str) from by decide +kernel) (by rfl)))
 case d238 => (intro _ _ _ _; exact mts_nil)
 case' d239 => (intro _ _ _ _; apply me_cal ?d249 ?_ ?d250 ?d251 ?_ ?_)
 case d249 => exact C__law_test
 case d250 => exact (NmOk.glob (by walk_at "n"))
 case' d251 => apply ma_2 ?d252 me_int ?_ ?_
 case d252 => exact (me_var (pvf 1 (by walk_at "n")))
 case' d231 => apply mss_cons ?d253 ?d254
 case' d253 => apply ms_setC (k := 13) ?d255 ?_ ?d256 (N' := ["_law_test_here", "_law_fields_here"]) (ix := [none, some 3]) ?d257 ?_ ?d258 ?d259 ?d260 ?d261 ?d262 ?_ ?_
 case d255 => exact sc_law.nd
 case d256 => exact q110.lk
 case d257 => exact ⟨rfl, by decide +kernel, by decide +kernel, comp_free _ _ rfl, rfl, comp_ix _ _ _ _ rfl⟩
 case' d258 => apply cg_name ?_
 case' d259 => apply mi_list ?_
 case d259 => exact (me_var (pvk 12 q106))
 case d260 => (intro _ _ _ _; exact (pgo (i := 0) (by walk_at "n") (show List.Nodup (["_law_test_here", "_law_fields_here"] : List Str) from by decide +kernel) (by rfl)))
 case d261 => (intro _ _ _ _; exact mts_nil)
 case' d262 => (intro _ _ _ _; apply me_cal ?d264 ?_ ?d265 ?d266 ?_ ?_)
 case d264 => exact C_fits
 case d265 => exact (NmOk.glob (by walk_at "n"))
 case' d266 => apply ma_2 ?d267 ?d268 ?_ ?_
 case d267 => exact (me_var (pvk 0 (NmOk.own (by walk_at "n"))))
 case d268 => exact (me_var (pvf 1 (by walk_at "n")))
 case' d254 => apply mss_cons ?d269 ?d270
 case' d269 => apply ms_if ?d271 ?d272 mss_nil
 case' d271 => apply mt_cmp ?d273 fm_ne ?d274 ?d275 ?_
 case d273 => exact (op_neK (hu151 hr))
 case' d274 => apply me_cal ?d276 ?_ ?d277 ?d278 ?_ ?_
 case d276 => exact C_fits
 case d277 => exact q109
 case' d278 => apply ma_2 ?d279 ?d280 ?_ ?_
 case' d279 => apply me_cal ?d281 ?_ ?d282 ?d283 ?_ ?_
 case d281 => exact C__law_joined
 case d282 => exact q107
 case' d283 => apply ma_2 me_str ?d284 ?_ ?_
 case d284 => exact (me_var (pvk 12 q106))
 case d280 => exact (me_var (pvk 8 q108))
 case' d275 => apply me_cmp ?d285 fm_notIn me_bl ?d286 ?_
 case d285 => exact (op_notInM (hu151 hr))
 case d286 => exact (me_var (pvk 13 q110))
 case' d272 => apply mss_one ?_
 case' d272 => apply ms_ret me_bl
 case' d270 => apply mss_cons ?d288 ?d289
 case' d288 => apply ms_if ?d290 ?d291 mss_nil
 case' d290 => apply mt_cmp ?d292 fm_ne ?d293 ?d294 ?_
 case d292 => exact (op_neK (hu151 hr))
 case' d293 => apply me_cal ?d295 ?_ ?d296 ?d297 ?_ ?_
 case d295 => exact C_fits
 case d296 => exact q109
 case' d297 => apply ma_2 ?d298 ?d299 ?_ ?_
 case' d298 => apply me_cal ?d300 ?_ ?d301 ?d302 ?_ ?_
 case d300 => exact C__law_joined
 case d301 => exact q107
 case' d302 => apply ma_2 me_str ?d303 ?_ ?_
 case d303 => exact (me_var (pvk 12 q106))
 case d299 => exact (me_var (pvk 8 q108))
 case' d294 => apply me_cmp ?d304 fm_in me_bl ?d305 ?_
 case d304 => exact (op_inM (hu151 hr))
 case d305 => exact (me_var (pvk 13 q110))
 case' d291 => apply mss_one ?_
 case' d291 => apply ms_ret me_bl
 case' d289 => apply mss_one ?_
 case' d289 => apply ms_if ?d308 ?d309 mss_nil
 case' d308 => apply PW.pt ?_
 case' d308 => apply mw_or ?d311 ?d312
 case' d311 => apply mt_not ?_
 case' d311 => apply mt_val ?d314 ?_
 case' d314 => apply me_cal ?d315 ?_ ?d316 ?d317 ?_ ?_
 case d315 => exact C_is_test
 case d316 => exact q105
 case' d317 => apply ma_1 ?d318 ?_
 case' d318 => apply me_cal ?d319 ?_ ?d320 ?d321 ?_ ?_
 case d319 => exact C__law_joined
 case d320 => exact q107
 case' d321 => apply ma_2 me_str ?d322 ?_ ?_
 case d322 => exact (me_var (pvk 12 q106))
 case' d312 => apply mw_or1 ?_
 case' d312 => apply mt_not ?_
 case' d312 => apply mt_val ?d325 ?_
 case' d325 => apply me_cal ?d326 ?_ ?d327 ?d328 ?_ ?_
 case d326 => exact C_is_test
 case d327 => exact q105
 case' d328 => apply ma_1 ?d329 ?_
 case' d329 => apply me_tup ?_
 case' d329 => apply ma_2 me_str ?d331 ?_ ?_
 case d331 => exact (me_var (pvk 6 q104))
 case' d309 => apply mss_one ?_
 case' d309 => apply ms_ret me_bl
 case' d11 => apply mss_one ?_
 case' d11 => apply ms_ret me_bl
 all_goals (try walk_at "late")
end
end K06
set_option Elab.async false
set_option linter.all false
set_option maxRecDepth 100000
set_option maxHeartbeats 4000000
namespace K06
open PySem L2
local macro_rules | `(tactic| walk_at "e") => `(tactic| (with_reducible first
  | refine e_seq ?_ | refine e_sqN ?_ | refine e_sqR ?_ | refine e_sqB ?_ | refine e_sqC ?_ | refine e_lqN ?_ | refine e_lqC ?_ | refine e_lqB ?_ | refine e_lqR ?_ | refine e_fqR ?_ | refine e_fqN ?_ | refine e_sif ?_ | refine e_asg ?_ | refine e_nm ?_ | refine e_ret ?_ | refine e_retN ?_ | refine e_drop ?_ | refine e_next ?_ | refine e_brk ?_ | refine e_cont ?_
  | refine e_c ?_ | refine e_op ?_ | refine e_un ?_ | refine e_cb ?_ | refine e_call ?_ | refine e_nil ?_ | refine e_cons ?_ | refine e_tV ?_ | refine e_eb ?_ | refine e_tAnd ?_ | refine e_tOr ?_ | refine e_tNot ?_ | refine e_and ?_ | refine e_or ?_ | refine e_not ?_ | refine e_ifE ?_ | refine e_chain ?_ | refine e_tTrue ?_
  | refine ite_t ?_ | refine ite_f ?_ | refine e_oNo ?_ | refine e_oSome ?_ | refine e_sl ?_ | refine e_comp ?_ | refine e_for ?_ | refine e_body ?_ | refine e_gnil ?_ | refine e_gcons ?_
  | (refine e_gtp ?h1 ?_; (case h1 => with_unfolding_all rfl))
  | (refine' e_var ?hv ?_; (case hv => with_unfolding_all rfl))
  | refine ite_nT ?_ | refine ite_nF ?_ | refine p_eqTT ?_ | refine p_eqTF ?_ | refine p_eqFT ?_ | refine p_eqFF ?_ | refine p_neTT ?_ | refine p_neTF ?_ | refine p_neFT ?_ | refine p_neFF ?_ | refine p_isTT ?_ | refine p_isTF ?_ | refine p_isFT ?_ | refine p_isFF ?_ | refine p_isNotTT ?_ | refine p_isNotTF ?_ | refine p_isNotFT ?_ | refine p_isNotFF ?_
  | refine p_addI ?_ | refine p_subI ?_ | refine p_ltI ?_ | refine p_leI ?_ | refine p_gtI ?_ | refine p_geI ?_ | refine p_ltS ?_ | refine p_eqI ?_ | refine p_neI ?_ | refine p_eqS ?_ | refine p_neS ?_ | refine p_eqB ?_ | refine p_neB ?_ | refine p_isN ?_ | refine p_isNotN ?_ | refine p_isB ?_ | refine p_isNotB ?_ | refine p_neg ?_ | refine p_abs ?_ | refine p_intI ?_ | refine p_intB ?_ | refine p_min ?_ | refine p_max ?_
  | refine p_lenL ?_ | refine p_lenT ?_ | refine p_lenC ?_ | refine p_slL ?_ | refine p_slC ?_ | refine p_slT ?_
  | (refine p_ixL ?h1 ?_; (case h1 => with_unfolding_all rfl))
  | (refine p_ixT ?h1 ?_; (case h1 => with_unfolding_all rfl))
  | (refine p_mulI ?h1 ?_; (case h1 => omega))
  | (refine p_mod ?h1 ?_; (case h1 => omega))
  | (refine p_div ?h1 ?_; (case h1 => omega))
  | (refine p_pow ?h1 ?_; (case h1 => decide))
  | refine pi_non_str ?_ | refine pi_non_int ?_ | refine pi_non_bool ?_ | refine pi_non_tuple ?_ | refine pi_non_list ?_ | refine pi_bl_str ?_ | refine pi_bl_int ?_ | refine pi_bl_bool ?_ | refine pi_bl_tuple ?_ | refine pi_bl_list ?_ | refine pi_int_str ?_ | refine pi_int_int ?_ | refine pi_int_bool ?_ | refine pi_int_tuple ?_ | refine pi_int_list ?_ | refine pi_str_str ?_ | refine pi_str_int ?_ | refine pi_str_bool ?_ | refine pi_str_tuple ?_ | refine pi_str_list ?_ | refine pi_tup_str ?_ | refine pi_tup_int ?_ | refine pi_tup_bool ?_ | refine pi_tup_tuple ?_ | refine pi_tup_list ?_ | refine pi_lst_str ?_ | refine pi_lst_int ?_ | refine pi_lst_bool ?_ | refine pi_lst_tuple ?_ | refine pi_lst_list ?_ | refine pi_scr_str ?_ | refine pi_scr_int ?_ | refine pi_scr_bool ?_ | refine pi_scr_tuple ?_ | refine pi_scr_list ?_ | refine pi_dct_str ?_ | refine pi_dct_int ?_ | refine pi_dct_bool ?_ | refine pi_dct_tuple ?_ | refine pi_dct_list ?_
  | (refine e_tup ⟨?h1, ?_⟩; (case h1 => decide))
  | refine e_tup ?_ | refine e_lst ?_ | refine e_lstH ?_))
local macro_rules | `(tactic| walk_at "es") => `(tactic| repeat (walk_at "e"))
def hd (cs : List Int) (a b c : Int) : MO := .lst [.lst (cs.map M.int), .int a, .int b, .int c]
def HandAt (h : HpM) (p : Nat) (c : Int) : Prop := ∃ cs a b, h[p]? = some (hd cs a b c) ∧ (∀ n ∈ cs, 0 ≤ n) ∧ cs.length ≤ 63 ∧ 0 ≤ a ∧ 0 ≤ b ∧ 0 ≤ c
theorem atM_ints {ns : List Int} {i : Int} (h0 : 0 ≤ i) (h : i < (ns.length : Int)) : ∃ c, c ∈ ns ∧ atI (ns.map M.int) i = some (.int c) := by
  have hk : i.toNat < ns.length := by omega
  have ek : i = ((i.toNat : Nat) : Int) := by omega
  refine ⟨ns[i.toNat], List.getElem_mem hk, ?_⟩
  have z : atI (ns.map M.int) ((i.toNat : Nat) : Int) = some (.int ns[i.toNat]) := atI_nat (by rw [List.getElem?_map, List.getElem?_eq_getElem hk]; rfl)
  rwa [← ek] at z
theorem draw_ok {h : HpM} {p : Nat} {c many : Int} {R : M → HpM → Prop} (hh : HandAt h p c) (m1 : 0 < many) (m2 : many < 1073741824) (m3 : c < 1000000000)
    (k : ∀ r h', 0 ≤ r → r < many → HandAt h' p (c + 1) → Kp p h h' → R (.int r) h') : Ens (m__law_draw [.ref p, .int many] h) R := by
  obtain ⟨cs, a, b, e, hcs, hl, ha, hb, hc⟩ := hh
  refine e_fun rfl ?_
  unfold b__law_draw
  walk_at "es"
  refine p_ixR e rfl ?_
  walk_at "es"
  refine e_put (k := p) (j := 3) rfl rfl e rfl fun h1 e1 k1 => ?_
  replace e1 : h1[p]? = some (hd cs a b (c + 1)) := e1
  walk_at "e"
  walk_at "e"
  refine join (fun o h2 => (∃ r, o = .rt (.int r) ∧ 0 ≤ r ∧ r < many ∧ HandAt h2 p (c + 1) ∧ Kp p h h2) ∨ ∃ a2 b2 v2 v3 v4, o = .nx [some (.ref p), some (.int many), v2, v3, v4, none] ∧ 0 ≤ a2 ∧ 0 ≤ b2 ∧ h2[p]? = some (hd cs a2 b2 (c + 1)) ∧ Kp p h h2) ?_ ?_
  · walk_at "es"
    refine p_ixR e1 rfl ?_
    walk_at "es"
    refine ite_b (fun _ => ?_) (fun _ => ?_)
    · walk_at "e"
      walk_at "e"
      walk_at "e"
      walk_at "e"
      walk_at "e"
      walk_at "e"
      refine join (fun o h2 => ∃ n, 0 ≤ n ∧ o = .nx [some (.ref p), some (.int many), some (.int n), none, none, none] ∧ h2 = h1) ?_ ?_
      · walk_at "es"
        refine p_ixR e1 rfl ?_
        walk_at "es"
        refine ite_b (fun hp => ?_) (fun _ => ?_)
        · have hp' : 0 < cs.length := by simpa using of_decide_eq_true hp
          walk_at "es"
          refine p_ixR e1 rfl ?_
          walk_at "es"
          refine p_ixR e1 rfl ?_
          walk_at "es"
          refine p_ixR e1 rfl ?_
          walk_at "e"
          walk_at "e"
          refine p_mod (by simp; omega) ?_
          obtain ⟨n, hn, en⟩ := atM_ints (ns := cs) (i := a % ((cs.map M.int).length : Int)) (Int.emod_nonneg _ (by rw [List.length_map]; omega)) (by have := Int.emod_lt_of_pos a (b := ((cs.map M.int).length : Int)) (by rw [List.length_map]; omega); simpa using this)
          refine p_ixL en ?_
          walk_at "es"
          exact ⟨n, hcs n hn, rfl, rfl⟩
        · walk_at "es"
          exact ⟨0, Int.le_refl _, rfl, rfl⟩
      · rintro o h2 ⟨n, hn, rfl, rfl⟩
        walk_at "es"
        refine p_ixR e1 rfl ?_
        walk_at "es"
        refine e_put (k := p) (j := 1) rfl rfl e1 rfl fun h2 e2 k2 => ?_
        replace e2 : h2[p]? = some (hd cs (a + 1) b (c + 1)) := e2
        walk_at "e"
        walk_at "e"
        refine join (fun o h3 => (∃ r, o = .rt (.int r) ∧ 0 ≤ r ∧ r < many ∧ h3 = h2) ∨ (o = .nx [some (.ref p), some (.int many), some (.int n), none, none, none] ∧ h3 = h2)) ?_ ?_
        · walk_at "e"
          refine Ens.mono (Q := fun _ h3 => h3 = h2) ?_ fun t h3 e => ?_
          · walk_at "es"
            refine ite_b (fun _ => rfl) (fun _ => ?_)
            walk_at "es"
            refine p_ixR e2 rfl ?_
            walk_at "es"
            refine p_ixR e2 rfl ?_
            walk_at "es"
            rfl
          · subst e
            refine ite_b (fun _ => ?_) (fun _ => ?_)
            · walk_at "es"
              refine p_ixR e2 rfl ?_
              walk_at "es"
              refine p_ixR e2 rfl ?_
              walk_at "es"
              refine p_ixR e2 rfl ?_
              walk_at "es"
              refine p_ixR e2 rfl ?_
              walk_at "es"
              exact .inl ⟨_, rfl, Int.emod_nonneg _ (by omega), Int.emod_lt_of_pos _ m1, rfl⟩
            · walk_at "es"
              exact .inr ⟨rfl, rfl⟩
        · rintro o h3 (⟨r, rfl, r0, r1, rfl⟩ | ⟨rfl, rfl⟩)
          · exact .inl ⟨r, rfl, r0, r1, ⟨cs, _, _, e2, hcs, hl, by omega, hb, by omega⟩, k1.trans k2⟩
          · walk_at "es"
            refine e_put (k := p) (j := 2) rfl rfl e2 rfl fun h3 e3 k3 => ?_
            exact .inr ⟨_, _, _, _, _, rfl, by omega, hn, e3, (k1.trans k2).trans k3⟩
    · walk_at "es"
      exact .inr ⟨a, b, _, _, _, rfl, ha, hb, e1, k1⟩
  · rintro o h2 (⟨r, rfl, r0, r1, hh2, k2⟩ | ⟨a2, b2, v2, v3, v4, rfl, ha2, hb2, e2, k2⟩)
    · exact k r h2 r0 r1 hh2 k2
    · walk_at "es"
      refine p_ixR e2 rfl ?_
      walk_at "es"
      refine p_ixR e2 rfl ?_
      walk_at "es"
      refine e_put (k := p) (j := 2) rfl rfl e2 rfl fun h3 e3 k3 => ?_
      walk_at "es"
      exact k _ _ (Int.emod_nonneg _ (by omega)) (Int.emod_lt_of_pos _ m1) ⟨cs, a2, _, e3, hcs, hl, ha2, Int.ediv_nonneg hb2 (by omega), by omega⟩ (k2.trans k3)

def Hd (o : MO) (c : Int) : Prop := ∃ cs a b n, o = hd cs a b n ∧ n ≤ c ∧ (∀ n ∈ cs, 0 ≤ n) ∧ cs.length ≤ 63 ∧ 0 ≤ a ∧ 0 ≤ b ∧ 0 ≤ n
theorem Hd.mono {o : MO} {c c' : Int} (h : Hd o c) (hc : c ≤ c') : Hd o c' := by
  obtain ⟨cs, a, b, n, e, hn, r⟩ := h
  exact ⟨cs, a, b, n, e, by omega, r⟩
theorem ints_pu {cs : List Int} : ∀ y ∈ cs.map M.int, Pu 0 y := fun y hy => by
  obtain ⟨i, _, rfl⟩ := List.mem_map.mp hy
  exact Pu.int
theorem Hd.pu {o : MO} {c : Int} (h : Hd o c) : PuO o := by
  obtain ⟨cs, a, b, n, rfl, hn, h1, h2, _⟩ := h
  refine .inl ⟨_, 1, rfl, fun y hy => ?_⟩
  simp only [List.mem_cons, List.not_mem_nil, or_false] at hy
  rcases hy with rfl | rfl | rfl | rfl
  · exact Pu.lst (by rw [List.length_map]; omega) ints_pu
  · exact Pu.int
  · exact Pu.int
  · exact Pu.int
theorem draw0 {o : MO} {t : HpM} {c many : Int} {R : M → HpM → Prop} (hh : Hd o c) (m1 : 0 < many) (m2 : many < 1073741824) (m3 : c < 1000000000)
    (k : ∀ r o', 0 ≤ r → r < many → Hd o' (c + 1) → R (.int r) (o' :: t)) : Ens (m__law_draw [.ref 0, .int many] (o :: t)) R := by
  obtain ⟨cs, a, b, n, rfl, hn, h1, h2, h3, h4, h5⟩ := hh
  refine draw_ok (p := 0) (c := n) ⟨cs, a, b, rfl, h1, h2, h3, h4, h5⟩ m1 m2 (by omega) fun r h' r0 r1 hh' kp => ?_
  obtain ⟨cs', a', b', e, q1, q2, q3, q4, q5⟩ := hh'
  cases h' with
  | nil => simp at e
  | cons o' t' =>
    have et : t' = t := by
      apply List.ext_getElem?
      intro i
      simpa using kp.2 (i + 1) (by omega)
    subst et
    have eo : o' = hd cs' a' b' (n + 1) := by simpa using e
    exact k r o' r0 r1 ⟨cs', a', b', n + 1, eo, by omega, q1, q2, q3, q4, q5⟩
local macro_rules | `(tactic| walk_at "w") => `(tactic| repeat (first | (with_reducible refine e_oInt ?_) | (with_reducible refine p_l0 ?_) | (with_reducible refine p_l1 ?_) | walk_at "e" | (with_reducible refine len_ok (by simp) ?_) | (with_reducible refine ⟨_, rfl, ?_⟩) | ((with_reducible refine draw0 (by assumption) (by first | omega | decide) (by first | omega | decide) (by omega) ?_); intro _ _ _ _ _)))
def lowC (c : Nat) : Bool := decide (97 ≤ c) && decide (c ≤ 122)
def Nm (z : Str) : Prop := 1 ≤ z.length ∧ z.length ≤ 8 ∧ z.cps.toList.all lowC = true
def BI (i : Int) : Prop := -4000000000000 < i ∧ i < 4000000000000
def IsVal (v : M) : Prop := (∃ i, v = .int i ∧ BI i) ∨ ∃ z : Str, v = .str z ∧ z.length ≤ 100
theorem IsVal.pu {v : M} (h : IsVal v) {k : Nat} : Pu k v := by
  rcases h with ⟨i, rfl, _⟩ | ⟨z, rfl, hz⟩
  · exact Pu.int
  · exact Pu.str hz
def nmB (z : Str) : Bool := decide (1 ≤ z.length) && decide (z.length ≤ 8) && z.cps.toList.all lowC
theorem nm_of {z : Str} (h : nmB z = true) : Nm z := by
  unfold nmB at h
  simp only [Bool.and_eq_true, decide_eq_true_eq] at h
  exact ⟨h.1.1, h.1.2, h.2⟩
theorem nms_of {ss : List Str} (h : ss.all nmB = true) : ∀ x ∈ ss.map M.str, ∃ z, x = .str z ∧ Nm z := fun x hx => by
  obtain ⟨z, hz, rfl⟩ := List.mem_map.mp hx
  exact ⟨z, rfl, nm_of (List.all_eq_true.mp h z hz)⟩
theorem vals_of {ss : List Str} (h : ss.all (fun z => decide (z.length ≤ 100)) = true) : ∀ x ∈ ss.map M.str, IsVal x := fun x hx => by
  obtain ⟨z, hz, rfl⟩ := List.mem_map.mp hx
  exact .inr ⟨z, rfl, of_decide_eq_true (List.all_eq_true.mp h z hz)⟩
theorem sum_ones : ∀ {cs : List Str}, (∀ c ∈ cs, c.length = 1) → (cs.map (·.length)).sum = cs.length
  | [], _ => rfl
  | c :: cs, h => by
    rw [List.map_cons, List.sum_cons, sum_ones fun d hd => h d (List.mem_cons_of_mem _ hd), h c List.mem_cons_self, List.length_cons]; omega
theorem flat_ones : ∀ {cs : List Str}, (∀ c ∈ cs, c.length = 1) → ((cs.map fun c => c.cps.toList).flatten).length = cs.length
  | [], _ => rfl
  | c :: cs, h => by
    rw [List.map_cons, List.flatten_cons, List.length_append, flat_ones fun d hd => h d (List.mem_cons_of_mem _ hd), List.length_cons]
    have : c.cps.toList.length = 1 := by have := h c List.mem_cons_self; simpa [Str.length] using this
    omega
theorem join_nm {cs : List Str} (h1 : 1 ≤ cs.length) (h8 : cs.length ≤ 8) (h : ∀ c ∈ cs, c.length = 1 ∧ c.cps.toList.all lowC = true) : Nm (Txt.join "" cs) := by
  have e := join_cps (z := "") (by decide +kernel) cs
  have hl : (Txt.join "" cs).length = cs.length := by
    have := congrArg List.length e
    rw [flat_ones fun c hc => (h c hc).1] at this
    simpa [Str.length] using this
  refine ⟨by omega, by omega, ?_⟩
  rw [e, List.all_eq_true]
  intro x hx
  obtain ⟨l, hl, hxl⟩ := List.mem_flatten.mp hx
  obtain ⟨c, hc, rfl⟩ := List.mem_map.mp hl
  exact List.all_eq_true.mp (h c hc).2 x hxl
theorem word0 {o : MO} {t : HpM} {c : Int} {R : M → HpM → Prop} (hh : Hd o c) (m3 : c < 900000000) (k : ∀ z o', Nm z → Hd o' (c + 11) → R (.str z) (o' :: t)) : Ens (m__law_word [.ref 0] (o :: t)) R := by
  refine e_fun rfl ?_
  unfold b__law_word
  walk_at "w"
  refine ite_b (fun _ => ?_) (fun _ => ?_)
  · walk_at "w"
    refine p_any (by assumption) (by assumption) fun x hx => ?_
    obtain ⟨z, rfl, hz⟩ := nms_of (ss := ["b", "aa", "zebra", "c", "quartzes", "ab", "m", "knows", "d", "mm", "likes", "z", "a", "age"]) (by decide +kernel) x hx
    walk_at "w"
    exact k z _ hz (Hd.mono (by assumption) (by omega))
  · walk_at "w"
    refine e_mt ?_
    walk_at "w"
    refine ⟨rfl, ?_⟩
    walk_at "w"
    refine e_iR1 ?_
    walk_at "w"
    rename_i r o2 m0 m1 hm
    refine ⟨by omega, by simp; omega, ?_⟩
    refine e_over2 (fun i acc h' => ∃ ss : List Str, acc = ss.map .str ∧ ss.length = i ∧ (∀ z ∈ ss, z.length = 1 ∧ z.cps.toList.all lowC = true) ∧ ∃ o', h' = o' :: t ∧ Hd o' (c + 2 + i)) ⟨[], rfl, rfl, by simp, _, rfl, Hd.mono (by assumption) (by omega)⟩ ?_ ?_
    · rintro i x acc h' hx ⟨ss, rfl, rfl, hs, o', rfl, ho⟩
      have hi : ss.length < 8 := by have := (List.getElem?_eq_some_iff.mp hx).1; simp at this; omega
      walk_at "w"
      refine p_anyS (by decide +kernel) (by assumption) (by assumption) fun x hx => ?_
      have hl : lowC x = true := List.all_eq_true.mp (show ("abcdefghijklmnopqrstuvwxyz" : Str).cps.toList.all lowC = true by decide +kernel) x hx
      refine ⟨ss ++ [⟨#[x]⟩], by simp, by simp, fun z hz => ?_, _, rfl, Hd.mono (by assumption) (by omega)⟩
      rcases List.mem_append.mp hz with hz | hz
      · exact hs z hz
      · rw [List.mem_singleton.mp hz]
        exact ⟨rfl, by simpa using hl⟩
    · rintro acc h' ⟨ss, rfl, hl, hs, o', rfl, ho⟩
      have hl' : ss.length = (1 + r).toNat := by rw [hl]; simp
      walk_at "w"
      refine e_join (by rw [sum_ones fun z hz => (hs z hz).1, show ("" : Str).length = 0 from rfl]; omega) ?_
      walk_at "w"
      exact k _ _ (join_nm (by omega) (by omega) hs) (Hd.mono ho (by omega))
theorem value0 {o : MO} {t : HpM} {c : Int} {R : M → HpM → Prop} (hh : Hd o c) (m3 : c < 900000000) (k : ∀ v o', IsVal v → Hd o' (c + 6) → R v (o' :: t)) : Ens (m__law_value [.ref 0] (o :: t)) R := by
  refine e_fun rfl ?_
  unfold b__law_value
  walk_at "w"
  refine p_any (by assumption) (by assumption) fun x hx => ?_
  have hx' : IsVal x := by
    simp only [List.mem_cons, List.not_mem_nil, or_false] at hx
    rcases hx with rfl | rfl | rfl
    · exact .inl ⟨_, rfl, by decide, by decide⟩
    · exact .inl ⟨_, rfl, by decide, by decide⟩
    · refine .inl ⟨_, rfl, ?_⟩
      have e : (10 : Int) ^ (11 : Int).toNat = 100000000000 := by decide
      have e6 : (10 : Int) ^ (6 : Int).toNat = 1000000 := by decide
      rw [e]
      rename_i r o2 h0 h1 _ _ _ _ _ _
      rw [e6] at h1
      exact ⟨by omega, by omega⟩
  clear hx
  walk_at "w"
  refine p_any (by assumption) (by assumption) fun y hy => ?_
  have hy' := vals_of (ss := ["", "b", "aa", "B", "ab c", "12", "-3", "~", " ", "a", "zzzzzzzzzzzzzzzzzzzz", "0"]) (by decide +kernel) y hy
  clear hy
  walk_at "w"
  refine p_any (by assumption) (by assumption) fun i hi => ?_
  have hi' : ∃ j, i = .int j ∧ 0 ≤ j ∧ j < 4 := by
    simp only [List.mem_cons, List.not_mem_nil, or_false] at hi
    rcases hi with rfl | rfl | rfl | rfl | rfl <;> exact ⟨_, rfl, by decide, by decide⟩
  obtain ⟨j, rfl, j0, j1⟩ := hi'
  refine p_any j0 (by simpa using j1) fun v hv => ?_
  have hv' : IsVal v := by
    simp only [List.mem_cons, List.not_mem_nil, or_false] at hv
    rcases hv with rfl | rfl | rfl | rfl
    · exact .inl ⟨_, rfl, by omega, by omega⟩
    · exact .inl ⟨_, rfl, by omega, by omega⟩
    · exact hx'
    · exact hy'
  walk_at "w"
  exact k v _ hv' (Hd.mono (by assumption) (by omega))
def dctS (kvs : List (Str × M)) : List (Key × M) := kvs.map fun kv => (.inr kv.1, kv.2)
structure Fl (kvs : List (Str × M)) : Prop where
  nd : (kvs.map (·.1)).Nodup
  nm : ∀ kv ∈ kvs, Nm kv.1
  val : ∀ kv ∈ kvs, IsVal kv.2
def putS (kvs : List (Str × M)) (z : Str) (v : M) : List (Str × M) := if (kvs.any fun kv => decide (kv.1 = z)) then kvs.map fun kv => if kv.1 = z then (kv.1, v) else kv else kvs ++ [(z, v)]
theorem putM_S {kvs : List (Str × M)} {z : Str} {v : M} : putM (dctS kvs) (.inr z) v = dctS (putS kvs z v) := by
  have ha : ((dctS kvs).any fun kv => decide (kv.1 = (Sum.inr z : Key))) = kvs.any fun kv => decide (kv.1 = z) := by
    unfold dctS
    rw [List.any_map]
    congr 1
    funext kv
    simp
  unfold putM putS
  rw [ha]
  split
  · unfold dctS
    rw [List.map_map, List.map_map]
    refine List.map_congr_left fun kv _ => ?_
    by_cases h : kv.1 = z
    · simp [h]
    · simp [h]
  · unfold dctS
    simp
theorem Fl.put {kvs : List (Str × M)} {z : Str} {v : M} (f : Fl kvs) (hz : Nm z) (hv : IsVal v) : Fl (putS kvs z v) ∧ (putS kvs z v).length ≤ kvs.length + 1 := by
  unfold putS
  split
  · refine ⟨⟨?_, fun kv hk => ?_, fun kv hk => ?_⟩, by simp⟩
    · rw [List.map_map]
      have : ((fun kv : Str × M => kv.1) ∘ fun kv => if kv.1 = z then (kv.1, v) else kv) = fun kv => kv.1 := by
        funext kv
        by_cases h : kv.1 = z <;> simp [h]
      rw [this]; exact f.nd
    · obtain ⟨kv', h', rfl⟩ := List.mem_map.mp hk
      by_cases h : kv'.1 = z
      · rw [if_pos h]; exact f.nm kv' h'
      · rw [if_neg h]; exact f.nm kv' h'
    · obtain ⟨kv', h', rfl⟩ := List.mem_map.mp hk
      by_cases h : kv'.1 = z
      · rw [if_pos h]; exact hv
      · rw [if_neg h]; exact f.val kv' h'
  · rename_i hn
    refine ⟨⟨?_, fun kv hk => ?_, fun kv hk => ?_⟩, by simp⟩
    · rw [List.map_append, List.nodup_append]
      refine ⟨f.nd, by simp, fun x hx y hy e => hn ?_⟩
      simp only [List.map_cons, List.map_nil, List.mem_singleton] at hy
      subst hy e
      obtain ⟨kv, hk, rfl⟩ := List.mem_map.mp hx
      exact List.any_eq_true.mpr ⟨kv, hk, decide_eq_true rfl⟩
    · rcases List.mem_append.mp hk with hk | hk
      · exact f.nm kv hk
      · rw [List.mem_singleton.mp hk]; exact hz
    · rcases List.mem_append.mp hk with hk | hk
      · exact f.val kv hk
      · rw [List.mem_singleton.mp hk]; exact hv
theorem fields0 {o : MO} {t : HpM} {c most : Int} {R : M → HpM → Prop} (hh : Hd o c) (m3 : c < 800000000) (h0 : 0 ≤ most) (h9 : most ≤ 9) (ht : ∀ o ∈ t, PuO o)
    (k : ∀ kvs o', Fl kvs → kvs.length ≤ most → Hd o' (c + 200) → R (dctM (dctS kvs)) (o' :: t)) : Ens (m__law_fields [.ref 0, .int most] (o :: t)) R := by
  refine e_shutD ?_
  refine e_fun rfl ?_
  unfold b__law_fields
  walk_at "e"
  walk_at "e"
  refine e_newDH ?_
  simp only [List.cons_append]
  walk_at "w"
  refine e_iR1 ?_
  walk_at "w"
  rename_i r o2 r0 r1 ho2
  refine ⟨by omega, ?_⟩
  refine e_over (fun i ρ h' => ∃ v3 kvs o', ρ = [some (.ref 0), some (.int most), some (.ref (o :: t).length), v3] ∧ h' = o' :: (t ++ [.dct (dctS kvs)]) ∧ Fl kvs ∧ kvs.length ≤ i ∧ Hd o' (c + 1 + 17 * i)) ⟨_, [], o2, rfl, rfl, ⟨by simp, by simp, by simp⟩, by simp, ho2.mono (by omega)⟩ ?_ ?_
  · rintro i x ρ h' hx ⟨v3, kvs, o', rfl, rfl, fl, hl, ho⟩
    have hi : i < 10 := by have := (List.getElem?_eq_some_iff.mp hx).1; simp at this; omega
    walk_at "w"
    refine e_dput ?_
    walk_at "w"
    refine value0 ho (by omega) fun v o3 hv ho3 => ?_
    walk_at "w"
    refine word0 ho3 (by omega) fun z o4 hz ho4 => ?_
    have eat : (o4 :: (t ++ [MO.dct (dctS kvs)]))[(o :: t).length]? = some (.dct (dctS kvs)) := by simp
    refine ⟨_, .inr z, dctS kvs, rfl, rfl, eat, by unfold dctS; rw [List.length_map]; omega, ?_⟩
    obtain ⟨f2, l2⟩ := fl.put hz hv
    rw [putM_S]
    refine ⟨_, putS kvs z v, o4, rfl, ?_, f2, by omega, ho4.mono (by omega)⟩
    rw [List.length_cons, List.set_cons_succ, set1 rfl]
  · rintro ρ h' ⟨v3, kvs, o', rfl, rfl, fl, hl, ho⟩
    rw [List.length_map, List.length_range] at hl ho
    walk_at "w"
    refine ⟨o' :: t, [.dct (dctS kvs)], dctS kvs, 0, _, rfl, rfl, fun q hq => ?_, rfl, Nat.le_refl _, by simp, fun kv hk => ?_, k kvs o' fl (by omega) (ho.mono (by omega))⟩
    · rcases List.mem_cons.mp hq with rfl | hq
      · exact ho.pu
      · exact ht q hq
    · obtain ⟨kv', h', rfl⟩ := List.mem_map.mp hk
      exact (fl.val kv' h').pu
def ab (n : Int) : Int := if n < 0 then -n else n
theorem cut63 {ns : List Int} (hl : ns.length ≤ 63) : cutM (ns.map M.int) none (some 63) = ns.map M.int := by
  unfold cutM
  have := HT.sIx_nat (ns.map M.int).length (ns.map M.int).length 63
  rw [HT.sIx_none]
  have e : HT.sIx (ns.map M.int).length (ns.map M.int).length (some 63) = (ns.map M.int).length := by
    have h2 : ((63 : Nat) : Int) = 63 := rfl
    rw [h2] at this
    rw [this]; simp; omega
  rw [e, List.drop_zero, Nat.sub_zero, List.take_length]
theorem hand_ok {ns : List Int} {h : HpM} {R : M → HpM → Prop} (hl : ns.length ≤ 63) (k : HandAt (h ++ [hd (ns.map ab) 0 0 0]) h.length 0 → R (.ref h.length) (h ++ [hd (ns.map ab) 0 0 0])) : Ens (m__law_hand [.scr ns] h) R := by
  refine e_fun rfl ?_
  unfold b__law_hand
  walk_at "es"
  refine e_iL ?_
  walk_at "es"
  refine ⟨_, rfl, ?_⟩
  walk_at "es"
  refine ⟨_, rfl, ?_⟩
  rw [cut63 hl]
  refine ⟨by simp; omega, ?_⟩
  refine e_over2 (fun i acc h' => acc = ((ns.take i).map ab).map M.int ∧ h' = h) ⟨by simp, rfl⟩ ?_ ?_
  · rintro i x acc h' hx ⟨rfl, rfl⟩
    rw [List.getElem?_map] at hx
    cases q : ns[i]? with
    | none => rw [q] at hx; cases hx
    | some n =>
      rw [q] at hx
      cases hx
      walk_at "es"
      refine ⟨?_, rfl⟩
      rw [take_succ' q]
      simp [ab]
  · rintro acc h' ⟨rfl, rfl⟩
    walk_at "es"
    refine ⟨by simp, ?_⟩
    have e : ((ns.take (ns.map M.int).length).map ab).map M.int = (ns.map ab).map M.int := by simp
    rw [e]
    walk_at "es"
    refine k ⟨ns.map ab, 0, 0, by simp, fun n hn => ?_, by simpa using hl, by omega, by omega, by omega⟩
    obtain ⟨m, _, rfl⟩ := List.mem_map.mp hn
    unfold ab
    split <;> omega
theorem hand0 {ns : List Int} {R : M → HpM → Prop} (hl : ns.length ≤ 63) (k : ∀ o, Hd o 0 → R (.ref 0) [o]) : Ens (m__law_hand [.scr ns] []) R :=
  hand_ok (h := []) hl fun hh => by
    obtain ⟨cs, a, b, e, h1, h2, h3, h4, h5⟩ := hh
    refine k _ ⟨cs, a, b, 0, ?_, Int.le_refl _, h1, h2, h3, h4, h5⟩
    simpa using e
theorem ite_lf {A B : Prop} {c : Bool} (h : c = false) (q : B) : if c = true then A else B := by rw [h]; exact q
theorem ite_lt {A B : Prop} {c : Bool} (h : c = true) (q : A) : if c = true then A else B := by rw [h]; exact q
local macro_rules | `(tactic| walk_at "v") => `(tactic| repeat (first | (with_reducible refine e_oInt ?_) | (with_reducible refine p_l0 ?_) | (with_reducible refine p_l1 ?_) | (with_reducible refine p_t0 ?_) | (with_reducible refine p_t1 ?_) | (with_reducible refine p_t2 ?_) | walk_at "e" | (with_reducible refine len_ok (by simp) ?_) | (with_reducible refine ⟨_, rfl, ?_⟩) | ((with_reducible refine draw0 (by assumption) (by first | omega | decide) (by first | omega | decide) (by omega) ?_); intro _ _ _ _ _) | (with_reducible refine ite_lf (by decide +kernel) ?_) | (with_reducible refine ite_lt (by decide +kernel) ?_)))
def IsV (v : M) : Prop := (∃ i, v = .int i) ∨ ∃ z : Str, v = .str z ∧ z.length ≤ 2000
theorem IsVal.v {v : M} (h : IsVal v) : IsV v := by
  rcases h with ⟨i, rfl, _⟩ | ⟨z, rfl, hz⟩
  · exact .inl ⟨i, rfl⟩
  · exact .inr ⟨z, rfl, by omega⟩
def isI : M → Bool
  | .int _ => true
  | _ => false
def veq : M → M → Bool
  | .int i, .int j => i == j
  | .str a, .str b => a == b
  | _, _ => false
def ltV : M → M → Bool
  | .int i, .int j => decide (i < j)
  | .int _, .str _ => true
  | .str a, .str b => decide (a.cps.toList < b.cps.toList)
  | _, _ => false
theorem p_eqV {x y : M} {h : HpM} {R : M → Prop} (hx : IsV x) (hy : IsV y) (q : R (.bl (veq x y))) : Enp (opEq x y h) R := by
  rcases hx with ⟨i, rfl⟩ | ⟨a, rfl, _⟩ <;> rcases hy with ⟨j, rfl⟩ | ⟨b, rfl, _⟩ <;> exact ⟨_, rfl, q⟩
theorem lnum_ok {x : M} {h : HpM} {R : M → HpM → Prop} (hx : IsV x) (k : R (.bl (isI x)) h) : Ens (m__law_is_number [x] h) R := by
  refine e_fun rfl ?_
  unfold b__law_is_number
  rcases hx with ⟨i, rfl⟩ | ⟨a, rfl, _⟩
  · walk_at "v"; exact k
  · walk_at "v"; exact k
theorem sort_ok {x y : M} {h : HpM} {R : M → HpM → Prop} (hx : IsV x) (hy : IsV y) (k : R (.bl (isI x == isI y)) h) : Ens (m_same_sort [x, y] h) R := by
  refine e_fun rfl ?_
  unfold b_same_sort
  rcases hx with ⟨i, rfl⟩ | ⟨a, rfl, _⟩ <;> rcases hy with ⟨j, rfl⟩ | ⟨b, rfl, _⟩ <;> (walk_at "v"; exact k)
theorem before_ok {x y : M} {h : HpM} {R : M → HpM → Prop} (hx : IsV x) (hy : IsV y) (k : R (.bl (ltV x y)) h) : Ens (m_before [x, y] h) R := by
  refine e_fun rfl ?_
  unfold b_before
  rcases hx with ⟨i, rfl⟩ | ⟨z, rfl, _⟩ <;> rcases hy with ⟨j, rfl⟩ | ⟨w, rfl, _⟩
  · walk_at "v"; refine e_fun rfl ?_; unfold b_same_sort; walk_at "v"; exact k
  · walk_at "v"; refine e_fun rfl ?_; unfold b_same_sort; walk_at "v"; exact k
  · walk_at "v"; refine e_fun rfl ?_; unfold b_same_sort; walk_at "v"; exact k
  · walk_at "v"; refine e_fun rfl ?_; unfold b_same_sort; walk_at "v"; exact k
inductive Wd where
  | i | u | o
deriving DecidableEq
def Wd.s : Wd → Str
  | .i => "is"
  | .u => "under"
  | .o => "over"
inductive Tst where
  | any | has (z : Str) | cmp (w : Wd) (z : Str) (v : M) | no (t : Tst) | both (a b : Tst) | either (a b : Tst)
def tM : Tst → M
  | .any => .tup [.str "any"]
  | .has z => .tup [.str "has", .str z]
  | .cmp w z v => .tup [.str w.s, .str z, v]
  | .no t => .tup [.str "not", tM t]
  | .both a b => .tup [.str "both", tM a, tM b]
  | .either a b => .tup [.str "either", tM a, tM b]
def Tst.deep : Tst → Nat
  | .no t => t.deep + 1
  | .both a b => max a.deep b.deep + 1
  | .either a b => max a.deep b.deep + 1
  | _ => 0
def TOk : Tst → Prop
  | .any => True
  | .has z => Nm z
  | .cmp _ z v => Nm z ∧ IsV v
  | .no t => TOk t
  | .both a b => TOk a ∧ TOk b
  | .either a b => TOk a ∧ TOk b
def evC : Wd → M → M → Bool
  | .i, x, y => veq x y
  | .u, x, y => (isI x == isI y) && ltV x y
  | .o, x, y => (isI x == isI y) && ltV y x
def evT (kvs : List (Str × M)) : Tst → Bool
  | .any => true
  | .has z => (valM (dctS kvs) (.inr z)).isSome
  | .cmp w z v => match valM (dctS kvs) (.inr z) with
    | some x => evC w x v
    | none => false
  | .no t => !evT kvs t
  | .both a b => evT kvs a && evT kvs b
  | .either a b => evT kvs a || evT kvs b
theorem val_is {kvs : List (Str × M)} (f : Fl kvs) {z : Str} {x : M} (e : valM (dctS kvs) (.inr z) = some x) : IsVal x := by
  unfold valM dctS at e
  obtain ⟨kv, h1, h2⟩ := Option.map_eq_some_iff.mp e
  obtain ⟨kv', h3, h4⟩ := List.mem_map.mp (List.mem_of_find?_eq_some h1)
  subst h4 h2
  exact f.val kv' h3
theorem compares_ok {w : Wd} {x y : M} {h : HpM} {R : M → HpM → Prop} (hx : IsV x) (hy : IsV y) (k : R (.bl (evC w x y)) h) : Ens (m_compares [.str w.s, x, y] h) R := by
  refine e_fun rfl ?_
  unfold b_compares
  cases w with
  | i =>
    unfold Wd.s
    walk_at "v"
    refine p_eqV hx hy ?_
    walk_at "v"
    exact k
  | u =>
    unfold Wd.s
    walk_at "v"
    refine sort_ok hx hy ?_
    walk_at "v"
    refine ite_b (fun q => ?_) (fun q => ?_)
    · walk_at "v"
      rw [show evC .u x y = false by show ((isI x == isI y) && ltV x y) = _; rw [show (isI x == isI y) = false by simpa using q]; rfl] at k
      exact k
    · walk_at "v"
      refine before_ok hx hy ?_
      walk_at "v"
      rw [show evC .u x y = ltV x y by show ((isI x == isI y) && ltV x y) = _; rw [show (isI x == isI y) = true by simpa using q]; rfl] at k
      exact k
  | o =>
    unfold Wd.s
    walk_at "v"
    refine sort_ok hx hy ?_
    walk_at "v"
    refine ite_b (fun q => ?_) (fun q => ?_)
    · walk_at "v"
      rw [show evC .o x y = false by show ((isI x == isI y) && ltV y x) = _; rw [show (isI x == isI y) = false by simpa using q]; rfl] at k
      exact k
    · walk_at "v"
      refine before_ok hy hx ?_
      walk_at "v"
      rw [show evC .o x y = ltV y x by show ((isI x == isI y) && ltV y x) = _; rw [show (isI x == isI y) = true by simpa using q]; rfl] at k
      exact k
theorem holds_ok {kvs : List (Str × M)} (f : Fl kvs) {h : HpM} : ∀ (t : Tst) {n : Nat} {R : M → HpM → Prop}, t.deep < n → TOk t → R (.bl (evT kvs t)) h → Ens (m_holds n [tM t, dctM (dctS kvs)] h) R := by
  intro t
  induction t with
  | any =>
    intro n R hn _ k
    cases n with
    | zero => omega
    | succ n =>
      refine e_fun rfl ?_
      unfold b_holds tM
      walk_at "v"
      exact k
  | has z =>
    intro n R hn _ k
    cases n with
    | zero => omega
    | succ n =>
      refine e_fun rfl ?_
      unfold b_holds tM
      walk_at "v"
      refine p_notInD rfl dctOf_dct ?_
      walk_at "v"
      unfold evT at k
      refine ite_b (fun q => ?_) (fun q => ?_)
      · walk_at "v"
        rw [show (valM (dctS kvs) (.inr z)).isSome = false by simpa using q] at k
        exact k
      · walk_at "v"
        rw [show (valM (dctS kvs) (.inr z)).isSome = true by simpa using q] at k
        exact k
  | cmp w z v =>
    intro n R hn ok k
    cases n with
    | zero => omega
    | succ n =>
      refine e_fun rfl ?_
      unfold b_holds tM
      unfold evT at k
      cases e : valM (dctS kvs) (.inr z) with
      | none =>
        rw [e] at k
        cases w <;> (unfold Wd.s; walk_at "v"; refine p_notInD rfl dctOf_dct ?_; rw [e]; walk_at "v"; exact k)
      | some x =>
        rw [e] at k
        have hx := (val_is f e).v
        cases w <;> (unfold Wd.s; walk_at "v"; refine p_notInD rfl dctOf_dct ?_; rw [e]; walk_at "v"; refine ite_lf rfl ?_; walk_at "v"; refine p_ixD rfl dctOf_dct e ?_; walk_at "v")
        · exact compares_ok (w := .i) hx ok.2 k
        · exact compares_ok (w := .u) hx ok.2 k
        · exact compares_ok (w := .o) hx ok.2 k
  | no t ih =>
    intro n R hn ok k
    cases n with
    | zero => omega
    | succ n =>
      refine e_fun rfl ?_
      unfold b_holds tM
      walk_at "v"
      refine ih (by have : t.deep + 1 < n + 1 := hn; omega) ok ?_
      walk_at "v"
      exact k
  | both a b iha ihb =>
    intro n R hn ok k
    cases n with
    | zero => omega
    | succ n =>
      have hd : max a.deep b.deep + 1 < n + 1 := hn
      refine e_fun rfl ?_
      unfold b_holds tM
      walk_at "v"
      refine iha (by omega) ok.1 ?_
      walk_at "v"
      unfold evT at k
      refine ite_b (fun q => ?_) (fun q => ?_)
      · walk_at "v"
        refine ihb (by omega) ok.2 ?_
        walk_at "v"
        rw [q, Bool.true_and] at k
        exact k
      · walk_at "v"
        rw [q, Bool.false_and] at k
        exact k
  | either a b iha ihb =>
    intro n R hn ok k
    cases n with
    | zero => omega
    | succ n =>
      have hd : max a.deep b.deep + 1 < n + 1 := hn
      refine e_fun rfl ?_
      unfold b_holds tM
      walk_at "v"
      refine iha (by omega) ok.1 ?_
      walk_at "v"
      unfold evT at k
      refine ite_b (fun q => ?_) (fun q => ?_)
      · walk_at "v"
        rw [q, Bool.true_or] at k
        exact k
      · walk_at "v"
        refine ihb (by omega) ok.2 ?_
        walk_at "v"
        rw [q, Bool.false_or] at k
        exact k
def kT : Nat → Int
  | 0 => 40
  | n + 1 => 40 + 2 * kT n
theorem kT_nn : ∀ n, 40 ≤ kT n
  | 0 => by decide
  | n + 1 => by have := kT_nn n; unfold kT; omega
theorem cws : ∀ x ∈ [M.str "is", .str "under", .str "over", .str "is"], ∃ w : Wd, x = .str w.s := fun x hx => by
  simp only [List.mem_cons, List.not_mem_nil, or_false] at hx
  rcases hx with rfl | rfl | rfl | rfl
  · exact ⟨.i, rfl⟩
  · exact ⟨.u, rfl⟩
  · exact ⟨.o, rfl⟩
  · exact ⟨.i, rfl⟩
theorem ltest_ok {t : HpM} : ∀ (d : Nat) {n : Nat} {o : MO} {c : Int} {R : M → HpM → Prop}, d < n → Hd o c → c + kT d < 900000000 → (∀ ts o', TOk ts → ts.deep ≤ d → Hd o' (c + kT d) → R (tM ts) (o' :: t)) → Ens (m__law_test n [.ref 0, .int d] (o :: t)) R
  | d, 0, o, c, R, hn, _, _, _ => by omega
  | d, n + 1, o, c, R, hn, ho, hc, k => by
    have hk := kT_nn d
    refine e_fun rfl ?_
    unfold b__law_test
    walk_at "v"
    rename_i r o1 r0 r1 ho1
    refine ite_b (fun q => ?_) (fun q => ?_)
    · walk_at "v"
      refine word0 (by assumption) (by omega) fun z o2 hz ho2 => ?_
      walk_at "v"
      rename_i r' o3 s0 s1 ho3
      refine p_any (by omega) (by simp; omega) fun x hx => ?_
      walk_at "v"
      have hx' : ∃ ts, x = tM ts ∧ TOk ts ∧ ts.deep = 0 := by
        simp only [List.mem_cons, List.not_mem_nil, or_false] at hx
        rcases hx with rfl | rfl
        · exact ⟨.any, rfl, trivial, rfl⟩
        · exact ⟨.has z, rfl, hz, rfl⟩
      obtain ⟨ts, rfl, h1, h2⟩ := hx'
      exact k ts o3 h1 (by omega) (ho3.mono (by omega))
    walk_at "v"
    have q2 : ¬ r < 2 := by simpa using q
    refine ite_b (fun q3 => ?_) (fun q3 => ?_)
    · have q4 : d = 0 := by simpa using q3
      walk_at "v"
      refine ite_b (fun q5 => ?_) (fun q5 => ?_)
      · walk_at "v"
        refine word0 (by assumption) (by omega) fun z o2 hz ho2 => ?_
        walk_at "v"
        rename_i r' o3 s0 s1 ho3
        refine p_any (by omega) (by simp; omega) fun x hx => ?_
        walk_at "v"
        have hx' : ∃ ts, x = tM ts ∧ TOk ts ∧ ts.deep = 0 := by
          simp only [List.mem_cons, List.not_mem_nil, or_false] at hx
          rcases hx with rfl | rfl
          · exact ⟨.any, rfl, trivial, rfl⟩
          · exact ⟨.has z, rfl, hz, rfl⟩
        obtain ⟨ts, rfl, h1, h2⟩ := hx'
        exact k ts o3 h1 (by omega) (ho3.mono (by omega))
      have q6 : r ≤ 5 := by simpa using q5
      walk_at "v"
      refine ite_b (fun q7 => ?_) (fun q7 => absurd q7 (by simp; omega))
      walk_at "v"
      refine p_any (by omega) (by simp; omega) fun x hx => ?_
      obtain ⟨w, rfl⟩ := cws x hx
      walk_at "v"
      refine word0 (by assumption) (by omega) fun z o2 hz ho2 => ?_
      walk_at "v"
      refine value0 ho2 (by omega) fun v o3 hv ho3 => ?_
      walk_at "v"
      exact k (.cmp w z v) o3 ⟨hz, hv.v⟩ (Nat.zero_le _) (ho3.mono (by omega))
    · have q4 : d ≠ 0 := by simpa using q3
      walk_at "v"
      refine ite_b (fun q7 => ?_) (fun q7 => ?_)
      · have q8 : r < 6 := by simpa using q7
        walk_at "v"
        refine p_any (by omega) (by simp; omega) fun x hx => ?_
        obtain ⟨w, rfl⟩ := cws x hx
        walk_at "v"
        refine word0 (by assumption) (by omega) fun z o2 hz ho2 => ?_
        walk_at "v"
        refine value0 ho2 (by omega) fun v o3 hv ho3 => ?_
        walk_at "v"
        exact k (.cmp w z v) o3 ⟨hz, hv.v⟩ (Nat.zero_le _) (ho3.mono (by omega))
      have q8 : 6 ≤ r := by simpa using q7
      obtain ⟨e, rfl⟩ : ∃ e, d = e + 1 := ⟨d - 1, by omega⟩
      have hke := kT_nn e
      have hkd : kT (e + 1) = 40 + 2 * kT e := rfl
      have ed : ((e + 1 : Nat) : Int) - 1 = (e : Int) := by omega
      walk_at "v"
      refine ite_b (fun q9 => ?_) (fun q9 => ?_)
      · walk_at "v"
        rw [ed]
        refine ltest_ok e (by omega) ho1 (by omega) fun ts o2 h1 h2 ho2 => ?_
        walk_at "v"
        exact k (.no ts) o2 h1 (by show ts.deep + 1 ≤ e + 1; omega) (ho2.mono (by omega))
      · have q10 : r ≠ 6 := by simpa using q9
        walk_at "v"
        refine p_any (by omega) (by simp; omega) fun x hx => ?_
        walk_at "v"
        rw [ed]
        refine ltest_ok e (by omega) ho1 (by omega) fun ts o2 h1 h2 ho2 => ?_
        walk_at "v"
        rw [ed]
        refine ltest_ok e (by omega) ho2 (by omega) fun us o3 h3 h4 ho3 => ?_
        walk_at "v"
        have hx' : ∃ tt, M.tup [x, tM ts, tM us] = tM tt ∧ TOk tt ∧ tt.deep ≤ e + 1 := by
          simp only [List.mem_cons, List.not_mem_nil, or_false] at hx
          rcases hx with rfl | rfl
          · exact ⟨.both ts us, rfl, ⟨h1, h3⟩, by show max ts.deep us.deep + 1 ≤ _; omega⟩
          · exact ⟨.either ts us, rfl, ⟨h1, h3⟩, by show max ts.deep us.deep + 1 ≤ _; omega⟩
        obtain ⟨tt, et, h5, h6⟩ := hx'
        rw [et]
        exact k tt o3 h5 h6 (ho3.mono (by omega))
local macro_rules | `(tactic| walk_at "v") => `(tactic| repeat (first | (with_reducible refine e_oInt ?_) | (with_reducible refine p_cut1 ?_) | (with_reducible refine p_cutL1 ?_) | (with_reducible refine p_l0 ?_) | (with_reducible refine p_l1 ?_) | (with_reducible refine p_t0 ?_) | (with_reducible refine p_t1 ?_) | (with_reducible refine p_t2 ?_) | walk_at "e" | ((with_reducible refine len_ok ?hl ?_); (case hl => (simp; done))) | (with_reducible refine ⟨_, rfl, ?_⟩) | ((with_reducible refine draw0 (by assumption) (by first | omega | decide) (by first | omega | decide) (by omega) ?_); intro _ _ _ _ _) | (with_reducible refine ite_lf (by decide +kernel) ?_) | (with_reducible refine ite_lt (by decide +kernel) ?_)))
theorem sort_len {l : List Str} : (sortS l).length = l.length := (List.mergeSort_perm l leS).length_eq
def valS (kvs : List (Str × M)) (z : Str) : M := (valM (dctS kvs) (.inr z)).getD .non
def skS (kvs : List (Str × M)) : List (Str × M) := (sortS (kvs.map (·.1))).map fun z => (z, valS kvs z)
def prM (kv : Str × M) : M := .tup [.str kv.1, kv.2]
def dueL (kvs : List (Str × M)) : List M := (skS kvs).map prM
theorem dctS_len {kvs : List (Str × M)} : (dctS kvs).length = kvs.length := by unfold dctS; rw [List.length_map]
theorem skS_len {kvs : List (Str × M)} : (skS kvs).length = kvs.length := by unfold skS; rw [List.length_map, sort_len, List.length_map]
theorem namesM_S : ∀ {kvs : List (Str × M)}, namesM (dctS kvs) = some (kvs.map (·.1))
  | [] => rfl
  | kv :: kvs => by
    show (namesM (dctS kvs)).map (kv.1 :: ·) = _
    rw [namesM_S]; rfl
theorem sortP_S {kvs : List (Str × M)} : sortP (dctS kvs) (kvs.map (·.1)) = dueL kvs := by
  unfold sortP dueL skS
  rw [List.map_map]
  rfl
theorem pairsM_S : ∀ {kvs : List (Str × M)}, pairsM (kvs.map prM) = some (dctS kvs)
  | [] => rfl
  | kv :: kvs => by
    show (pairsM (kvs.map prM)).map (((Sum.inr kv.1 : Key), kv.2) :: ·) = _
    rw [pairsM_S]; rfl
theorem valS_mem : ∀ {kvs : List (Str × M)} {kv : Str × M}, (kvs.map (·.1)).Nodup → kv ∈ kvs → valM (dctS kvs) (.inr kv.1) = some kv.2
  | [], _, _, h => by cases h
  | x :: r, kv, hn, h => by
    rw [List.map_cons, List.nodup_cons] at hn
    rcases List.mem_cons.mp h with rfl | h
    · simp [valM, dctS]
    · have hne : x.1 ≠ kv.1 := fun e => hn.1 (by rw [e]; exact List.mem_map_of_mem h)
      have ih := valS_mem hn.2 h
      unfold valM dctS at ih ⊢
      rw [List.map_cons, List.find?_cons]
      simp only [Sum.inr.injEq, hne, decide_false]
      exact ih
theorem valS_of {kvs : List (Str × M)} {z : Str} (f : Fl kvs) (hz : z ∈ kvs.map (·.1)) : valM (dctS kvs) (.inr z) = some (valS kvs z) ∧ IsVal (valS kvs z) := by
  obtain ⟨kv, hk, rfl⟩ := List.mem_map.mp hz
  have e := valS_mem f.nd hk
  unfold valS
  rw [e]
  exact ⟨rfl, f.val kv hk⟩
theorem sk_names {kvs : List (Str × M)} : (skS kvs).map (·.1) = sortS (kvs.map (·.1)) := by
  unfold skS
  rw [List.map_map]
  exact List.map_id _
theorem mem_sort {l : List Str} {z : Str} : z ∈ sortS l ↔ z ∈ l := (List.mergeSort_perm l leS).mem_iff
theorem Fl.sk {kvs : List (Str × M)} (f : Fl kvs) : Fl (skS kvs) := by
  refine ⟨?_, fun kv hk => ?_, fun kv hk => ?_⟩
  · rw [sk_names]
    exact (List.mergeSort_perm _ leS).nodup_iff.mpr f.nd
  · obtain ⟨z, hz, rfl⟩ := List.mem_map.mp hk
    obtain ⟨kv', h', rfl⟩ := List.mem_map.mp (mem_sort.mp hz)
    exact f.nm kv' h'
  · obtain ⟨z, hz, rfl⟩ := List.mem_map.mp hk
    exact (valS_of f (mem_sort.mp hz)).2
theorem merge_nd : ∀ {more acc : List (Key × M)}, ((acc ++ more).map (·.1)).Nodup → mergeM acc more = acc ++ more
  | [], acc, _ => by rw [List.append_nil]; rfl
  | kv :: more, acc, h => by
    have hp : putM acc kv.1 kv.2 = acc ++ [kv] := by
      unfold putM
      rw [if_neg]
      intro z
      obtain ⟨p, hp, e⟩ := List.any_eq_true.mp z
      have e' : p.1 = kv.1 := of_decide_eq_true e
      rw [List.map_append, List.map_cons, List.nodup_append] at h
      exact h.2.2 p.1 (List.mem_map_of_mem hp) kv.1 List.mem_cons_self e'
    show mergeM (putM acc kv.1 kv.2) more = _
    rw [hp, merge_nd (by rw [List.append_assoc]; exact h), List.append_assoc]; rfl
theorem merge_S {kvs : List (Str × M)} (hn : (kvs.map (·.1)).Nodup) : mergeM [] (dctS kvs) = dctS kvs := by
  refine merge_nd ?_
  rw [List.nil_append]
  have e : (dctS kvs).map (·.1) = (kvs.map (·.1)).map (Sum.inr : Str → Key) := by unfold dctS; rw [List.map_map, List.map_map]; rfl
  rw [e]
  exact hn.map Sum.inr (fun a b h z => h (Sum.inr.inj z))
theorem bdict_dct {h : HpM} {kvs : List (Key × M)} : bDict [dctM kvs] h = some (dctM kvs) := by
  show (match dctOf h (dctM kvs) with | some kvs => some (dctM kvs) | none => _) = _
  rw [dctOf_dct]
theorem bdict_tup {h : HpM} {kvs : List (Str × M)} (f : Fl kvs) (hl : kvs.length ≤ 1000) : bDict [.tup (kvs.map prM)] h = some (dctM (dctS kvs)) := by
  show (pairsM (kvs.map prM)).bind _ = _
  rw [pairsM_S, Option.bind_some, if_pos (by rw [dctS_len]; omega), merge_S f.nd]
theorem told_ok {x : M} {h : HpM} {kvs : List (Str × M)} {R : M → HpM → Prop} (e : bDict [x] h = some (dctM (dctS kvs))) (hl : kvs.length < 64) (k : R (.tup (dueL kvs)) h) : Ens (m_fields_told [x] h) R := by
  refine e_fun rfl ?_
  unfold b_fields_told
  walk_at "v"
  refine e_p e ?_
  refine p_sortItems dctOf_dct namesM_S (by rw [dctS_len]; omega) ?_
  walk_at "v"
  refine ⟨_, rfl, ?_⟩
  rw [sortP_S]
  walk_at "v"
  exact k
theorem fits_ok {kvs : List (Str × M)} (f : Fl kvs) {x : M} {h : HpM} {t : Tst} {R : M → HpM → Prop} (e : bDict [x] h = some (dctM (dctS kvs))) (ht : t.deep < 14) (ok : TOk t) (k : R (.bl (evT kvs t)) h) : Ens (m_fits [tM t, x] h) R := by
  refine e_fun rfl ?_
  unfold b_fits
  walk_at "v"
  refine e_p e ?_
  walk_at "v"
  exact holds_ok f t ht ok k
theorem isname_ok {z : Str} {h : HpM} {R : M → HpM → Prop} (hz : Nm z) (k : R (.bl true) h) : Ens (m_is_name [.str z] h) R := by
  obtain ⟨h1, h8, hl⟩ := hz
  refine e_fun rfl ?_
  unfold b_is_name
  walk_at "v"
  refine p_lenS (by omega) ?_
  walk_at "v"
  refine ite_b (fun _ => ?_) (fun q => absurd q (by simp; omega))
  walk_at "v"
  refine p_leI ?_
  walk_at "v"
  refine ite_b (fun q => absurd q (by simp; omega)) (fun _ => ?_)
  walk_at "v"
  refine e_iS ?_
  walk_at "v"
  have hlen : (z.cps.toList.map fun c => M.str ⟨#[c]⟩).length ≤ 8 := by simpa [Str.length] using h8
  refine ⟨Nat.le_trans hlen (by decide), ?_⟩
  refine e_filt (p := fun _ => true) (f := fun _ => .bl true) (fun x hx => ?_) ?_
  · obtain ⟨c, hc, rfl⟩ := List.mem_map.mp hx
    have hcl := List.all_eq_true.mp hl c hc
    unfold lowC at hcl
    simp only [Bool.and_eq_true, decide_eq_true_eq] at hcl
    have ea : ("a" : Str).cps.toList = [97] := by decide +kernel
    have ez : ("z" : Str).cps.toList = [122] := by decide +kernel
    walk_at "v"
    refine ⟨rfl, ?_⟩
    walk_at "v"
    refine ⟨rfl, rfl, fun _ => ?_⟩
    walk_at "v"
    refine p_leS ?_
    rw [ea, show (!decide (([c] : List Nat) < [97])) = true by rw [Bool.not_eq_true', decide_eq_false_iff_not, List.cons_lt_cons_iff]; simp; omega]
    walk_at "v"
    refine p_leS ?_
    rw [ez, show (!decide (([122] : List Nat) < [c])) = true by rw [Bool.not_eq_true', decide_eq_false_iff_not, List.cons_lt_cons_iff]; simp; omega]
    exact ⟨rfl, rfl⟩
  · rw [List.filter_eq_self.mpr (fun _ _ => rfl)]
    have e : ((z.cps.toList.map fun c => M.str ⟨#[c]⟩).map fun _ => M.bl true) = (z.cps.toList.map fun _ => true).map M.bl := by rw [List.map_map, List.map_map]; rfl
    rw [e]
    walk_at "v"
    refine p_all ?_
    walk_at "v"
    rw [show (z.cps.toList.map fun _ => true).all id = true by simp]
    exact k
theorem istest_ok {h : HpM} : ∀ (t : Tst) {n : Nat} {R : M → HpM → Prop}, t.deep < n → TOk t → R (.bl true) h → Ens (m_is_test n [tM t] h) R := by
  have in3 : ∀ w : Wd, inTx ["is", "under", "over"] (.str w.s) = true := fun w => by cases w <;> decide +kernel
  have isv : ∀ {v : M} {R : M → HpM → Prop}, IsV v → R (.bl true) h → Ens (m_is_value [v] h) R := fun {v R} hv k => by
    refine e_fun rfl ?_
    unfold b_is_value
    rcases hv with ⟨i, rfl⟩ | ⟨a, rfl, _⟩
    · walk_at "v"; refine e_fun rfl ?_; unfold b_is_number; walk_at "v"; exact k
    · walk_at "v"; refine e_fun rfl ?_; unfold b_is_number; walk_at "v"; exact k
  intro t
  induction t with
  | any =>
    intro n R hn _ k
    cases n with
    | zero => omega
    | succ n =>
      refine e_fun rfl ?_
      unfold b_is_test tM
      walk_at "v"
      exact k
  | has z =>
    intro n R hn ok k
    cases n with
    | zero => omega
    | succ n =>
      refine e_fun rfl ?_
      unfold b_is_test tM
      walk_at "v"
      refine ite_lf rfl ?_
      walk_at "v"
      refine ite_lt rfl ?_
      walk_at "v"
      exact isname_ok ok k
  | cmp w z v =>
    intro n R hn ok k
    cases n with
    | zero => omega
    | succ n =>
      refine e_fun rfl ?_
      unfold b_is_test tM
      have hw : ∀ w : Wd, (w.s == "any") = false ∧ (w.s == "has") = false := fun w => by cases w <;> decide +kernel
      obtain ⟨w1, w2⟩ := hw w
      walk_at "v"
      refine ite_lf rfl ?_
      walk_at "v"
      rw [w1]
      walk_at "v"
      rw [w2]
      walk_at "v"
      refine p_inT (ss := ["is", "under", "over"]) (k := 0) (Pu.str (by cases w <;> decide +kernel)) ?_
      rw [in3]
      walk_at "v"
      refine ite_lt rfl ?_
      walk_at "v"
      refine isname_ok ok.1 ?_
      walk_at "v"
      exact isv ok.2 k
  | no t ih =>
    intro n R hn ok k
    cases n with
    | zero => omega
    | succ n =>
      have hd : t.deep + 1 < n + 1 := hn
      refine e_fun rfl ?_
      unfold b_is_test tM
      walk_at "v"
      refine ite_lf rfl ?_
      walk_at "v"
      refine p_inT (ss := ["is", "under", "over"]) (k := 0) (Pu.str (by decide +kernel)) ?_
      walk_at "v"
      refine p_inT (ss := ["both", "either"]) (k := 0) (Pu.str (by decide +kernel)) ?_
      walk_at "v"
      refine ite_lt rfl ?_
      walk_at "v"
      exact ih (by omega) ok k
  | both a b iha ihb =>
    intro n R hn ok k
    cases n with
    | zero => omega
    | succ n =>
      have hd : max a.deep b.deep + 1 < n + 1 := hn
      refine e_fun rfl ?_
      unfold b_is_test tM
      walk_at "v"
      refine ite_lf rfl ?_
      walk_at "v"
      refine p_inT (ss := ["is", "under", "over"]) (k := 0) (Pu.str (by decide +kernel)) ?_
      walk_at "v"
      refine p_inT (ss := ["both", "either"]) (k := 0) (Pu.str (by decide +kernel)) ?_
      walk_at "v"
      refine ite_lt rfl ?_
      walk_at "v"
      refine iha (by omega) ok.1 ?_
      walk_at "v"
      exact ihb (by omega) ok.2 k
  | either a b iha ihb =>
    intro n R hn ok k
    cases n with
    | zero => omega
    | succ n =>
      have hd : max a.deep b.deep + 1 < n + 1 := hn
      refine e_fun rfl ?_
      unfold b_is_test tM
      walk_at "v"
      refine ite_lf rfl ?_
      walk_at "v"
      refine p_inT (ss := ["is", "under", "over"]) (k := 0) (Pu.str (by decide +kernel)) ?_
      walk_at "v"
      refine p_inT (ss := ["both", "either"]) (k := 0) (Pu.str (by decide +kernel)) ?_
      walk_at "v"
      refine ite_lt rfl ?_
      walk_at "v"
      refine iha (by omega) ok.1 ?_
      walk_at "v"
      exact ihb (by omega) ok.2 k
theorem tri {x v : M} (hx : IsV x) (hv : IsV v) (q : (isI x == isI v) = true) : [evC .i x v, evC .u x v, evC .o x v].countP (· == true) = 1 ∧ evC .u x v = ltV x v ∧ evC .o x v = ltV v x := by
  have eu : evC .u x v = ltV x v := by show ((isI x == isI v) && ltV x v) = _; rw [q]; rfl
  have eo : evC .o x v = ltV v x := by show ((isI x == isI v) && ltV v x) = _; rw [q]; rfl
  refine ⟨?_, eu, eo⟩
  rw [eu, eo]
  rcases hx with ⟨i, rfl⟩ | ⟨a, rfl, _⟩ <;> rcases hv with ⟨j, rfl⟩ | ⟨b, rfl, _⟩
  · show [i == j, decide (i < j), decide (j < i)].countP (· == true) = 1
    rcases Int.lt_trichotomy i j with h | h | h
    · rw [show (i == j) = false by simp; omega, show decide (i < j) = true by simpa using h, show decide (j < i) = false by simp; omega]; rfl
    · subst h; simp
    · rw [show (i == j) = false by simp; omega, show decide (i < j) = false by simp; omega, show decide (j < i) = true by simpa using h]; rfl
  · cases q
  · cases q
  · show [a == b, decide (a.cps.toList < b.cps.toList), decide (b.cps.toList < a.cps.toList)].countP (· == true) = 1
    by_cases h1 : a.cps.toList < b.cps.toList
    · have h2 : ¬ b.cps.toList < a.cps.toList := fun h => List.lt_irrefl _ (List.lt_trans h1 h)
      have h3 : a ≠ b := fun e => by subst e; exact List.lt_irrefl _ h1
      rw [show (a == b) = false by simpa using h3, decide_eq_true h1, decide_eq_false h2]; rfl
    · by_cases h2 : b.cps.toList < a.cps.toList
      · have h3 : a ≠ b := fun e => by subst e; exact List.lt_irrefl _ h2
        rw [show (a == b) = false by simpa using h3, decide_eq_false h1, decide_eq_true h2]; rfl
      · have h3 : a = b := leS_anti a b (by unfold leS; simpa using h2) (by unfold leS; simpa using h1)
        subst h3
        rw [decide_eq_false h1]; simp
theorem evN {w : Wd} {x v : M} (hx : IsV x) (hv : IsV v) (q : (isI x == isI v) = false) : evC w x v = false := by
  cases w with
  | i => rcases hx with ⟨i, rfl⟩ | ⟨a, rfl, _⟩ <;> rcases hv with ⟨j, rfl⟩ | ⟨b, rfl, _⟩ <;> first | rfl | cases q
  | u => show ((isI x == isI v) && ltV x v) = _; rw [q]; rfl
  | o => show ((isI x == isI v) && ltV v x) = _; rw [q]; rfl
theorem ofval_ok {kvs : List (Str × M)} (f : Fl kvs) {z : Str} {v : M} {h : HpM} {R : M → HpM → Prop} (hz : Nm z) (hv : IsV v) (k : R (.bl true) h) : Ens (m__law_of_value [dctM (dctS kvs), .str z, v] h) R := by
  refine e_fun rfl ?_
  unfold b__law_of_value
  walk_at "v"
  refine e_iT ?_
  walk_at "v"
  refine e_filt (p := fun _ => true) (f := fun x => match x with | .str s => .bl (evT kvs (.cmp (if s == "is" then .i else if s == "under" then .u else .o) z v)) | _ => .non) (fun x hx => ?_) ?_
  · have hx' : ∃ w : Wd, x = .str w.s ∧ (if w.s == "is" then Wd.i else if w.s == "under" then .u else .o) = w := by
      simp only [List.mem_cons, List.not_mem_nil, or_false] at hx
      rcases hx with rfl | rfl | rfl
      · exact ⟨.i, rfl, by decide +kernel⟩
      · exact ⟨.u, rfl, by decide +kernel⟩
      · exact ⟨.o, rfl, by decide +kernel⟩
    obtain ⟨w, rfl, ew⟩ := hx'
    walk_at "v"
    refine ⟨rfl, ?_⟩
    walk_at "v"
    refine ⟨rfl, rfl, fun _ => ?_⟩
    walk_at "v"
    refine fits_ok (t := .cmp w z v) f bdict_dct (Nat.zero_lt_succ _) ⟨hz, hv⟩ ?_
    exact ⟨rfl, by dsimp only; rw [ew]⟩
  rw [List.filter_eq_self.mpr (fun _ _ => rfl)]
  have e3 : ([M.str "is", .str "under", .str "over"].map fun x => match x with | .str s => M.bl (evT kvs (.cmp (if s == "is" then .i else if s == "under" then .u else .o) z v)) | _ => .non) = [evT kvs (.cmp .i z v), evT kvs (.cmp .u z v), evT kvs (.cmp .o z v)].map M.bl := by
    simp only [List.map_cons, List.map_nil]
    rw [show (if (("is" : Str) == "is") = true then Wd.i else if (("is" : Str) == "under") = true then .u else .o) = .i by decide +kernel, show (if (("under" : Str) == "is") = true then Wd.i else if (("under" : Str) == "under") = true then .u else .o) = .u by decide +kernel, show (if (("over" : Str) == "is") = true then Wd.i else if (("over" : Str) == "under") = true then .u else .o) = .o by decide +kernel]
  rw [e3]
  walk_at "v"
  refine p_inD rfl dctOf_dct ?_
  cases e : valM (dctS kvs) (.inr z) with
  | none =>
    have ez : ∀ w, evT kvs (.cmp w z v) = false := fun w => by unfold evT; rw [e]
    rw [ez, ez, ez]
    walk_at "v"
    refine e_mt ?_
    walk_at "v"
    refine ⟨rfl, ?_⟩
    walk_at "v"
    refine e_countB (bs := [false, false, false]) ?_
    walk_at "v"
    refine fits_ok (t := .has z) f bdict_dct (Nat.zero_lt_succ _) hz ?_
    walk_at "v"
    refine p_inD rfl dctOf_dct ?_
    rw [show evT kvs (.has z) = false by unfold evT; rw [e]; rfl, e]
    walk_at "v"
    exact k
  | some x =>
    have hx := (val_is f e).v
    have ez : ∀ w, evT kvs (.cmp w z v) = evC w x v := fun w => by unfold evT; rw [e]
    rw [ez, ez, ez]
    walk_at "v"
    refine ite_lt rfl ?_
    walk_at "v"
    refine p_ixD rfl dctOf_dct e ?_
    walk_at "v"
    refine lnum_ok hx ?_
    walk_at "v"
    refine lnum_ok hv ?_
    walk_at "v"
    refine e_mt ?_
    walk_at "v"
    refine ⟨rfl, ?_⟩
    walk_at "v"
    refine e_countB (bs := [evC .i x v, evC .u x v, evC .o x v]) ?_
    walk_at "v"
    cases q : (isI x == isI v) with
    | false =>
      rw [evN hx hv q, evN hx hv q, evN hx hv q]
      walk_at "v"
      refine fits_ok (t := .has z) f bdict_dct (Nat.zero_lt_succ _) hz ?_
      walk_at "v"
      refine p_inD rfl dctOf_dct ?_
      rw [show evT kvs (.has z) = true by unfold evT; rw [e]; rfl, e]
      walk_at "v"
      refine ite_lf rfl ?_
      walk_at "v"
      exact k
    | true =>
      obtain ⟨t1, t2, t3⟩ := tri hx hv q
      rw [t1]
      walk_at "v"
      refine fits_ok (t := .has z) f bdict_dct (Nat.zero_lt_succ _) hz ?_
      walk_at "v"
      refine p_inD rfl dctOf_dct ?_
      rw [show evT kvs (.has z) = true by unfold evT; rw [e]; rfl, e]
      walk_at "v"
      refine ite_lf rfl ?_
      walk_at "v"
      refine p_ixD rfl dctOf_dct e ?_
      walk_at "v"
      refine p_eqV hx hv ?_
      walk_at "v"
      refine before_ok hx hv ?_
      walk_at "v"
      refine before_ok hv hx ?_
      walk_at "v"
      rw [t2, t3]
      refine p_eqR (k := 1) (Pu.lst (by simp) (by intro y hy; simp at hy; rcases hy with rfl | rfl | rfl <;> exact Pu.bl)) (by decide) ?_
      walk_at "v"
      exact k
def jB (b : Bool) (s t : Tst) : Tst := if b then .both s t else .either s t
def jw (b : Bool) : Str := if b then "both" else "either"
theorem tM_j (b : Bool) (s t : Tst) : M.tup [.str (jw b), tM s, tM t] = tM (jB b s t) := by cases b <;> rfl
theorem jB_ok {b : Bool} {s t : Tst} (h1 : TOk s) (h2 : TOk t) : TOk (jB b s t) := by cases b <;> exact ⟨h1, h2⟩
theorem jB_deep {b : Bool} {s t : Tst} : (jB b s t).deep = max s.deep t.deep + 1 := by cases b <;> rfl
def stepT (b : Bool) (k : Nat) (m t : Tst) : Tst := if k % 2 = 0 then jB b m t else jB b t m
def jt (b : Bool) : Nat → Tst → List Tst → Tst
  | _, m, [] => m
  | k, m, t :: r => jt b (k + 1) (stepT b k m t) r
theorem jt_snoc (b : Bool) : ∀ (l : List Tst) (k : Nat) (m t : Tst), jt b k m (l ++ [t]) = stepT b (k + l.length) (jt b k m l) t
  | [], k, m, t => rfl
  | a :: l, k, m, t => by
    show jt b (k + 1) (stepT b k m a) (l ++ [t]) = _
    rw [jt_snoc b l]
    show stepT b (k + 1 + l.length) _ t = stepT b (k + (l.length + 1)) _ t
    rw [show k + 1 + l.length = k + (l.length + 1) by omega]; rfl
theorem step_ok {b : Bool} {k : Nat} {m t : Tst} (h1 : TOk m) (h2 : TOk t) : TOk (stepT b k m t) := by
  unfold stepT; split
  · exact jB_ok h1 h2
  · exact jB_ok h2 h1
theorem step_deep {b : Bool} {k : Nat} {m t : Tst} : (stepT b k m t).deep = max m.deep t.deep + 1 := by
  unfold stepT; split
  · exact jB_deep
  · rw [jB_deep, Nat.max_comm]
theorem jt_ok (b : Bool) : ∀ (l : List Tst) (k : Nat) (m : Tst), TOk m → (∀ t ∈ l, TOk t) → TOk (jt b k m l)
  | [], _, _, h, _ => h
  | t :: l, k, m, h, hl => jt_ok b l _ _ (step_ok h (hl t List.mem_cons_self)) fun x hx => hl x (List.mem_cons_of_mem _ hx)
theorem jt_deep (b : Bool) : ∀ (l : List Tst) (k : Nat) (m : Tst), (∀ t ∈ l, t.deep ≤ 1) → (jt b k m l).deep ≤ max m.deep 1 + l.length
  | [], _, m, _ => Nat.le_max_left _ _
  | t :: l, k, m, hl => by
    have h1 := jt_deep b l (k + 1) (stepT b k m t) fun x hx => hl x (List.mem_cons_of_mem _ hx)
    have h2 := hl t List.mem_cons_self
    rw [step_deep] at h1
    show (jt b (k + 1) (stepT b k m t) l).deep ≤ max m.deep 1 + (l.length + 1)
    omega
theorem ev_stepB {kvs : List (Str × M)} {k : Nat} {m t : Tst} : evT kvs (stepT true k m t) = (evT kvs m && evT kvs t) := by
  unfold stepT; split
  · rfl
  · show (evT kvs t && evT kvs m) = _; rw [Bool.and_comm]
theorem ev_stepE {kvs : List (Str × M)} {k : Nat} {m t : Tst} : evT kvs (stepT false k m t) = (evT kvs m || evT kvs t) := by
  unfold stepT; split
  · rfl
  · show (evT kvs t || evT kvs m) = _; rw [Bool.or_comm]
theorem ev_jtB {kvs : List (Str × M)} : ∀ (l : List Tst) (k : Nat) (m : Tst), evT kvs (jt true k m l) = ((m :: l).map (evT kvs)).all id
  | [], _, m => by simp [jt]
  | t :: l, k, m => by
    show evT kvs (jt true (k + 1) (stepT true k m t) l) = _
    rw [ev_jtB l, List.map_cons, List.all_cons, ev_stepB]
    simp [Bool.and_assoc]
theorem ev_jtE {kvs : List (Str × M)} : ∀ (l : List Tst) (k : Nat) (m : Tst), evT kvs (jt false k m l) = ((m :: l).map (evT kvs)).any id
  | [], _, m => by simp [jt]
  | t :: l, k, m => by
    show evT kvs (jt false (k + 1) (stepT false k m t) l) = _
    rw [ev_jtE l, List.map_cons, List.any_cons, ev_stepE]
    simp [Bool.or_assoc]
theorem joined_ok {b : Bool} {t0 : Tst} {ts : List Tst} {h : HpM} {R : M → HpM → Prop} (k : R (tM (jt b 0 t0 ts)) h) : Ens (m__law_joined [.str (jw b), .lst ((t0 :: ts).map tM)] h) R := by
  refine e_fun rfl ?_
  unfold b__law_joined
  rw [show (t0 :: ts).map tM = tM t0 :: ts.map tM from rfl]
  walk_at "v"
  refine e_iEnum ?_
  walk_at "v"
  refine ⟨_, _, rfl, rfl, ?_⟩
  refine e_over (fun i ρ h' => ∃ v3 v4, ρ = [some (.str (jw b)), some (.lst (tM t0 :: ts.map tM)), some (tM (jt b 0 t0 (ts.take i))), v3, v4] ∧ h' = h) ⟨_, _, rfl, rfl⟩ ?_ ?_
  · rintro i x ρ h' hx ⟨v3, v4, rfl, rfl⟩
    rw [numd_get, List.getElem?_map] at hx
    cases q : ts[i]? with
    | none => rw [q] at hx; cases hx
    | some t =>
      rw [q] at hx; cases hx
      have hi : i < ts.length := (List.getElem?_eq_some_iff.mp q).1
      walk_at "v"
      have ht : jt b 0 t0 (ts.take (i + 1)) = stepT b i (jt b 0 t0 (ts.take i)) t := by
        rw [take_succ' q, jt_snoc, List.length_take, Nat.min_eq_left (by omega), Nat.zero_add]
      by_cases hm : i % 2 = 0
      · refine p_ixL (d := tM (stepT b i (jt b 0 t0 (ts.take i)) t)) ?_ ?_
        · rw [show ((i : Int) % 2) = ((0 : Nat) : Int) by omega, atI_nat (j := 0) rfl, tM_j]
          unfold stepT; rw [if_pos hm]
        · walk_at "v"
          rw [ht]
          exact ⟨_, _, rfl, rfl⟩
      · refine p_ixL (d := tM (stepT b i (jt b 0 t0 (ts.take i)) t)) ?_ ?_
        · rw [show ((i : Int) % 2) = ((1 : Nat) : Int) by omega, atI_nat (j := 1) rfl, tM_j]
          unfold stepT; rw [if_neg hm]
        · walk_at "v"
          rw [ht]
          exact ⟨_, _, rfl, rfl⟩
  · rintro ρ h' ⟨v3, v4, rfl, rfl⟩
    rw [numd_length, List.length_map, List.take_length]
    walk_at "v"
    exact k
theorem sk_val {kvs : List (Str × M)} (f : Fl kvs) (z : Str) : valM (dctS (skS kvs)) (.inr z) = valM (dctS kvs) (.inr z) := by
  by_cases hz : z ∈ kvs.map (·.1)
  · have hm : (z, valS kvs z) ∈ skS kvs := List.mem_map.mpr ⟨z, mem_sort.mpr hz, rfl⟩
    rw [valS_mem (kv := (z, valS kvs z)) f.sk.nd hm, (valS_of f hz).1]
  · have no : ∀ l : List (Str × M), z ∉ l.map (·.1) → valM (dctS l) (.inr z) = none := fun l hl => by
      unfold valM dctS
      rw [List.find?_eq_none.mpr]
      · rfl
      · intro p hp
        obtain ⟨kv, hk, rfl⟩ := List.mem_map.mp hp
        simp only [decide_eq_true_eq, Sum.inr.injEq]
        exact fun e => hl (e ▸ List.mem_map_of_mem hk)
    rw [no kvs hz, no (skS kvs) (by rw [sk_names]; exact fun h => hz (mem_sort.mp h))]
theorem ev_sk {kvs : List (Str × M)} (f : Fl kvs) : ∀ t : Tst, evT (skS kvs) t = evT kvs t
  | .any => rfl
  | .has z => by unfold evT; rw [sk_val f]
  | .cmp w z v => by unfold evT; rw [sk_val f]
  | .no t => by unfold evT; rw [ev_sk f t]
  | .both a b => by unfold evT; rw [ev_sk f a, ev_sk f b]
  | .either a b => by unfold evT; rw [ev_sk f a, ev_sk f b]
noncomputable def tv (kvs : List (Str × M)) (x : M) : Bool := @decide (∃ t, tM t = x ∧ evT kvs t = true) (Classical.propDecidable _)
theorem wd_inj {a b : Wd} (h : a.s = b.s) : a = b := by
  cases a <;> cases b <;> first | rfl | exact absurd h (by decide +kernel)
theorem s_ne {a b : Str} (h : (a == b) = false) (e : a = b) : False := by subst e; simp at h
theorem wd_ne (w : Wd) : (w.s == "any") = false ∧ (w.s == "has") = false ∧ (w.s == "not") = false ∧ (w.s == "both") = false ∧ (w.s == "either") = false := by cases w <;> decide +kernel
theorem tM_inj : ∀ {a b : Tst}, tM a = tM b → a = b
  | .any, .any, _ => rfl
  | .has z, .has z', h => by simp only [tM, M.tup.injEq, List.cons.injEq, M.str.injEq] at h; rw [h.2.1]
  | .cmp w z v, .cmp w' z' v', h => by
    simp only [tM, M.tup.injEq, List.cons.injEq, M.str.injEq] at h
    rw [wd_inj h.1, h.2.1, h.2.2.1]
  | .no a, .no b, h => by
    simp only [tM, M.tup.injEq, List.cons.injEq] at h
    rw [tM_inj h.2.1]
  | .both a b, .both c d, h => by
    simp only [tM, M.tup.injEq, List.cons.injEq] at h
    rw [tM_inj h.2.1, tM_inj h.2.2.1]
  | .either a b, .either c d, h => by
    simp only [tM, M.tup.injEq, List.cons.injEq] at h
    rw [tM_inj h.2.1, tM_inj h.2.2.1]
  | .any, .has _, h => by simp [tM] at h
  | .any, .cmp _ _ _, h => by simp [tM] at h
  | .any, .no _, h => by simp [tM] at h
  | .any, .both _ _, h => by simp [tM] at h
  | .any, .either _ _, h => by simp [tM] at h
  | .has _, .any, h => by simp [tM] at h
  | .has _, .cmp _ _ _, h => by simp [tM] at h
  | .has _, .no _, h => by
    simp only [tM, M.tup.injEq, List.cons.injEq, M.str.injEq] at h
    exact (s_ne (by decide +kernel) h.1).elim
  | .has _, .both _ _, h => by simp [tM] at h
  | .has _, .either _ _, h => by simp [tM] at h
  | .cmp _ _ _, .any, h => by simp [tM] at h
  | .cmp _ _ _, .has _, h => by simp [tM] at h
  | .cmp _ _ _, .no _, h => by simp [tM] at h
  | .cmp w _ _, .both _ _, h => by
    simp only [tM, M.tup.injEq, List.cons.injEq, M.str.injEq] at h
    exact (s_ne (wd_ne w).2.2.2.1 h.1).elim
  | .cmp w _ _, .either _ _, h => by
    simp only [tM, M.tup.injEq, List.cons.injEq, M.str.injEq] at h
    exact (s_ne (wd_ne w).2.2.2.2 h.1).elim
  | .no _, .any, h => by simp [tM] at h
  | .no _, .has _, h => by
    simp only [tM, M.tup.injEq, List.cons.injEq, M.str.injEq] at h
    exact (s_ne (by decide +kernel) h.1).elim
  | .no _, .cmp _ _ _, h => by simp [tM] at h
  | .no _, .both _ _, h => by simp [tM] at h
  | .no _, .either _ _, h => by simp [tM] at h
  | .both _ _, .any, h => by simp [tM] at h
  | .both _ _, .has _, h => by simp [tM] at h
  | .both _ _, .cmp w _ _, h => by
    simp only [tM, M.tup.injEq, List.cons.injEq, M.str.injEq] at h
    exact (s_ne (wd_ne w).2.2.2.1 h.1.symm).elim
  | .both _ _, .no _, h => by simp [tM] at h
  | .both _ _, .either _ _, h => by
    simp only [tM, M.tup.injEq, List.cons.injEq, M.str.injEq] at h
    exact (s_ne (by decide +kernel) h.1).elim
  | .either _ _, .any, h => by simp [tM] at h
  | .either _ _, .has _, h => by simp [tM] at h
  | .either _ _, .cmp w _ _, h => by
    simp only [tM, M.tup.injEq, List.cons.injEq, M.str.injEq] at h
    exact (s_ne (wd_ne w).2.2.2.2 h.1.symm).elim
  | .either _ _, .no _, h => by simp [tM] at h
  | .either _ _, .both _ _, h => by
    simp only [tM, M.tup.injEq, List.cons.injEq, M.str.injEq] at h
    exact (s_ne (by decide +kernel) h.1).elim
theorem tv_M {kvs : List (Str × M)} {t : Tst} : tv kvs (tM t) = evT kvs t := by
  unfold tv
  cases e : evT kvs t with
  | true => exact @decide_eq_true _ (Classical.propDecidable _) ⟨t, rfl, e⟩
  | false =>
    refine @decide_eq_false _ (Classical.propDecidable _) ?_
    rintro ⟨t', h1, h2⟩
    rw [tM_inj h1, e] at h2
    cases h2
theorem kT_le : kT 3 = 600 ∧ kT 1 = 120 := by decide
theorem law_true (ns : List Int) (hl : ns.length ≤ 63) : ∃ h', m_law [.scr ns] [] = some (.bl true, h') := by
  suffices z : Ens (m_law [.scr ns] []) fun d _ => d = .bl true by
    obtain ⟨d, h', e, rfl⟩ := z
    exact ⟨h', e⟩
  have k3 := kT_le.1
  have k1 := kT_le.2
  refine e_fun rfl ?_
  unfold b_law
  walk_at "v"
  refine hand0 hl fun o ho => ?_
  walk_at "v"
  refine e_iR1 ?_
  walk_at "v"
  refine ⟨by decide, ?_⟩
  refine e_over (fun i ρ h' => ∃ v2 v3 v4 v5 v6 v7 v8 v9 va vb vc vd o', ρ = [some (.scr ns), some (.ref 0), v2, v3, v4, v5, v6, v7, v8, v9, va, vb, vc, vd] ∧ h' = [o'] ∧ Hd o' (5000 * i)) ⟨_, _, _, _, _, _, _, _, _, _, _, _, o, rfl, rfl, ho.mono (by omega)⟩ ?_ ?_
  · rintro i x ρ h' hx ⟨v2, v3, v4, v5, v6, v7, v8, v9, va, vb, vc, vd, o', rfl, rfl, ho'⟩
    have hi : i < 8 := by have := (List.getElem?_eq_some_iff.mp hx).1; simpa using this
    walk_at "v"
    refine fields0 ho' (by omega) (by decide) (by decide) (by simp) fun kvs o2 f hl9 ho2 => ?_
    have hl9' : kvs.length ≤ 9 := by omega
    walk_at "v"
    refine p_sortD dctOf_dct namesM_S (by rw [dctS_len]; omega) ?_
    walk_at "v"
    refine word0 ho2 (by omega) fun w o3 hw ho3 => ?_
    walk_at "v"
    refine p_addL (by simp [sort_len]; omega) ?_
    walk_at "v"
    refine p_lenD ?_
    rw [dctS_len]
    walk_at "v"
    rename_i r4 o4 s0 s1 ho4
    refine p_any s0 (by simp [sort_len]; omega) fun y hy => ?_
    have hy' : ∃ z : Str, y = .str z ∧ Nm z := by
      rcases List.mem_append.mp hy with hy | hy
      · obtain ⟨z, hz, rfl⟩ := List.mem_map.mp hy
        obtain ⟨kv, hk, rfl⟩ := List.mem_map.mp (mem_sort.mp hz)
        exact ⟨_, rfl, f.nm kv hk⟩
      · rw [List.mem_singleton.mp hy]; exact ⟨w, rfl, hw⟩
    obtain ⟨z, rfl, hz⟩ := hy'
    walk_at "v"
    refine value0 ho4 (by omega) fun v o5 hv ho5 => ?_
    walk_at "v"
    refine e_mt ?_
    walk_at "v"
    refine ⟨isD_dct, ?_⟩
    walk_at "v"
    refine e_dget rfl dctOf_dct ?_
    have hg : IsVal ((valM (dctS kvs) (.inr z)).getD (.int 0)) := by
      cases e : valM (dctS kvs) (.inr z) with
      | none => exact .inl ⟨0, rfl, by decide, by decide⟩
      | some u => exact val_is f e
    generalize (valM (dctS kvs) (.inr z)).getD (.int 0) = u at hg ⊢
    walk_at "v"
    rename_i r6 o6 s2 s3 ho6
    refine p_any s2 (by simpa using s3) fun y hy => ?_
    have hy' : IsV y := by
      simp only [List.mem_cons, List.not_mem_nil, or_false] at hy
      rcases hy with rfl | rfl
      · exact hv.v
      · exact hg.v
    walk_at "v"
    refine ofval_ok f hz hy' ?_
    walk_at "v"
    refine e_par ?_
    walk_at "v"
    refine ltest_ok 3 (by decide) ho6 (by omega) fun t1 o7 ht1 hd1 ho7 => ?_
    walk_at "v"
    refine ltest_ok 3 (by decide) ho7 (by omega) fun t2 o8 ht2 hd2 ho8 => ?_
    walk_at "v"
    refine ⟨_, _, rfl, ?_⟩
    walk_at "v"
    refine told_ok bdict_dct (by omega) ?_
    have fitP : ∀ {t : Tst} {h : HpM} {R : M → HpM → Prop}, t.deep < 14 → TOk t → R (.bl (evT kvs t)) h → Ens (m_fits [tM t, .tup (dueL kvs)] h) R := fun {t h R} h1 h2 k => by
      refine fits_ok f.sk (bdict_tup f.sk (by rw [skS_len]; omega)) h1 h2 ?_
      rw [ev_sk f]; exact k
    have fitD : ∀ {t : Tst} {h : HpM} {R : M → HpM → Prop}, t.deep < 14 → TOk t → R (.bl (evT kvs t)) h → Ens (m_fits [tM t, dctM (dctS kvs)] h) R := fun {t h R} h1 h2 k => fits_ok f bdict_dct h1 h2 k
    walk_at "v"
    refine e_iT ?_
    walk_at "v"
    refine e_over2 (fun i acc h' => h' = [o8] ∧ acc = ([t1, t2].take i).map fun t => M.bl (!evT kvs t)) ⟨rfl, rfl⟩ ?_ ?_
    · rintro i y acc h' hy ⟨rfl, rfl⟩
      have hy' : ∃ t, [t1, t2][i]? = some t ∧ y = tM t ∧ TOk t ∧ t.deep ≤ 3 := by
        match i, hy with
        | 0, hy => cases hy; exact ⟨t1, rfl, rfl, ht1, hd1⟩
        | 1, hy => cases hy; exact ⟨t2, rfl, rfl, ht2, hd2⟩
      obtain ⟨t, et, rfl, h1, h2⟩ := hy'
      walk_at "v"
      refine fitP (t := .no t) (by show t.deep + 1 < 14; omega) h1 ?_
      refine ⟨rfl, ?_⟩
      rw [take_succ' et, List.map_append]; rfl
    rintro acc h' ⟨rfl, rfl⟩
    walk_at "v"
    refine fitD (by omega) ht1 ?_
    walk_at "v"
    refine fitD (by omega) ht2 ?_
    walk_at "v"
    have ltw : ∀ b1 b2 : Bool, Pu 1 (.lst [.bl b1, .bl b2]) := fun b1 b2 => Pu.lst (by simp) (by intro y hy; simp at hy; rcases hy with rfl | rfl <;> exact Pu.bl)
    refine p_neR (ltw _ _) (by decide) ?_
    walk_at "v"
    refine e_par ?_
    walk_at "v"
    refine ⟨_, _, rfl, ?_⟩
    walk_at "v"
    refine fitD (t := .no (.both t1 t2)) (by show max t1.deep t2.deep + 1 + 1 < 14; omega) ⟨ht1, ht2⟩ ?_
    walk_at "v"
    refine fitD (t := .either (.no t1) (.no t2)) (by show max (t1.deep + 1) (t2.deep + 1) + 1 < 14; omega) ⟨ht1, ht2⟩ ?_
    have dm1 : evT kvs (.either (.no t1) (.no t2)) = evT kvs (.no (.both t1 t2)) := by show (!evT kvs t1 || !evT kvs t2) = !(evT kvs t1 && evT kvs t2); rw [Bool.not_and]
    have dm2 : evT kvs (.both (.no t1) (.no t2)) = evT kvs (.no (.either t1 t2)) := by show (!evT kvs t1 && !evT kvs t2) = !(evT kvs t1 || evT kvs t2); rw [Bool.not_or]
    rw [dm1]
    walk_at "v"
    refine ite_b (fun q => by simp at q) (fun _ => ?_)
    walk_at "v"
    refine fitD (t := .no (.either t1 t2)) (by show max t1.deep t2.deep + 1 + 1 < 14; omega) ⟨ht1, ht2⟩ ?_
    walk_at "v"
    refine fitD (t := .both (.no t1) (.no t2)) (by show max (t1.deep + 1) (t2.deep + 1) + 1 < 14; omega) ⟨ht1, ht2⟩ ?_
    rw [dm2]
    walk_at "v"
    refine ite_b (fun q => by simp at q) (fun _ => ?_)
    walk_at "v"
    refine e_iR1 ?_
    walk_at "v"
    rename_i r9 o9 s4 s5 ho9
    refine ⟨by omega, ?_⟩
    refine ⟨by simp; omega, ?_⟩
    refine e_over2 (fun q acc h' => ∃ ts : List Tst, acc = ts.map tM ∧ ts.length = q ∧ (∀ t ∈ ts, TOk t ∧ t.deep ≤ 1) ∧ ∃ o', h' = [o'] ∧ Hd o' (5000 * i + 1500 + 120 * q)) ⟨[], rfl, rfl, by simp, o9, rfl, ho9.mono (by omega)⟩ ?_ ?_
    · rintro q y acc h' hy ⟨ts, rfl, rfl, hts, o', rfl, ho'⟩
      have hq : ts.length < 7 := by have := (List.getElem?_eq_some_iff.mp hy).1; simp at this; omega
      walk_at "v"
      refine ltest_ok 1 (by decide) ho' (by omega) fun t o'' h1 h2 ho'' => ?_
      refine ⟨ts ++ [t], by simp, by simp, fun u hu => ?_, o'', rfl, ho''.mono (by omega)⟩
      rcases List.mem_append.mp hu with hu | hu
      · exact hts u hu
      · rw [List.mem_singleton.mp hu]; exact ⟨h1, h2⟩
    rintro acc h' ⟨ts, rfl, hlen, hts, oA, rfl, hoA⟩
    rw [List.length_map, List.length_range] at hlen hoA
    have hlen7 : ts.length ≤ 7 := by omega
    walk_at "v"
    refine e_iL ?_
    walk_at "v"
    refine ⟨by rw [List.length_map]; omega, ?_⟩
    refine e_filt (p := fun _ => true) (f := fun x => .bl (tv kvs x)) (fun x hx => ?_) ?_
    · obtain ⟨t, ht, rfl⟩ := List.mem_map.mp hx
      walk_at "v"
      refine ⟨rfl, ?_⟩
      walk_at "v"
      refine ⟨rfl, rfl, fun _ => ?_⟩
      walk_at "v"
      refine fitD (by have := (hts t ht).2; omega) (hts t ht).1 ?_
      exact ⟨rfl, by rw [tv_M]⟩
    rw [List.filter_eq_self.mpr (fun _ _ => rfl)]
    have em : ((ts.map tM).map fun x => M.bl (tv kvs x)) = (ts.map (evT kvs)).map M.bl := by
      rw [List.map_map, List.map_map]
      refine List.map_congr_left fun t _ => ?_
      show M.bl (tv kvs (tM t)) = M.bl (evT kvs t)
      rw [tv_M]
    rw [em]
    obtain ⟨t0, tr, rfl⟩ : ∃ t0 tr, ts = t0 :: tr := by
      cases ts with
      | nil => simp at hlen; omega
      | cons a b => exact ⟨a, b, rfl⟩
    have hr7 : tr.length ≤ 6 := by simpa using hlen7
    have h0 := hts t0 List.mem_cons_self
    have hrest : ∀ t ∈ tr, TOk t ∧ t.deep ≤ 1 := fun t ht => hts t (List.mem_cons_of_mem _ ht)
    have okj : ∀ b, TOk (jt b 0 t0 tr) := fun b => jt_ok b tr 0 t0 h0.1 fun t ht => (hrest t ht).1
    have dpj : ∀ b, (jt b 0 t0 tr).deep < 14 := fun b => by
      have := jt_deep b tr 0 t0 fun t ht => (hrest t ht).2
      have := h0.2
      omega
    walk_at "v"
    refine joined_ok (b := true) ?_
    walk_at "v"
    refine fitP (dpj true) (okj true) ?_
    walk_at "v"
    refine p_notInBL ?_
    rw [ev_jtB]
    have e1 : (((t0 :: tr).map (evT kvs)).all id) = !((t0 :: tr).map (evT kvs)).any (· == false) := by
      generalize (t0 :: tr).map (evT kvs) = bs
      induction bs with
      | nil => rfl
      | cons b bs ih => rw [List.all_cons, List.any_cons, ih]; cases b <;> simp
    rw [e1]
    walk_at "v"
    refine ite_b (fun q => by simp at q) (fun _ => ?_)
    walk_at "v"
    refine joined_ok (b := false) ?_
    walk_at "v"
    refine fitP (dpj false) (okj false) ?_
    walk_at "v"
    refine p_inBL ?_
    rw [ev_jtE]
    have e2 : (((t0 :: tr).map (evT kvs)).any id) = ((t0 :: tr).map (evT kvs)).any (· == true) := by
      congr 1
      funext b; cases b <;> rfl
    rw [e2]
    walk_at "v"
    refine ite_b (fun q => by simp at q) (fun _ => ?_)
    walk_at "v"
    refine joined_ok (b := true) ?_
    walk_at "v"
    refine istest_ok _ (dpj true) (okj true) ?_
    walk_at "v"
    refine istest_ok (.no t1) (by show t1.deep + 1 < 14; omega) ht1 ?_
    walk_at "v"
    exact ⟨_, _, _, _, _, _, _, _, _, _, _, _, oA, rfl, rfl, hoA.mono (by omega)⟩
  · rintro ρ h' ⟨v2, v3, v4, v5, v6, v7, v8, v9, va, vb, vc, vd, o', rfl, rfl, ho'⟩
    walk_at "v"
    rfl
end K06
set_option Elab.async false
set_option linter.all false
set_option maxRecDepth 100000
set_option maxHeartbeats 8000000
namespace K06
open PySem L2
section
variable {P : Program} {w : World} {K : PySem.W.Frag} {mg : Str → Option Value} {base : Heap} {t : Adr}
theorem ok_law0 (T : Txt K mg t) : FnOk P w K mg base CX0 20 t.f_law t.d_law ["_law_script"] (spLaw K) := (ok_law T).imp fun vs H Q E q => spLaw_spM law_true q
end
theorem txt_mk {K : PySem.W.Frag} {h : Heap} {mg : Str → Option Value} {f0 f1 f2 f3 f4 f5 f6 f7 f8 f9 f10 f11 f12 f13 f14 f15 f16 f17 f18 f19 : Addr} (X : K.In h) (G : h.Ns mainGlobals mg)
   {od0 an0 od1 an1 od2 an2 od3 an3 od4 an4 od5 an5 od6 an6 od7 an7 od8 an8 od9 an9 od10 an10 od11 an11 od12 an12 od13 an13 od14 an14 od15 an15 od16 an16 od17 an17 od18 an18 od19 an19 : Option Addr} {sl0 sl1 sl2 sl3 sl4 sl5 sl6 sl7 sl8 sl9 sl10 sl11 sl12 sl13 sl14 sl15 sl16 sl17 sl18 sl19 : Array (Option Value)} {oc0 kV0 dc0 pm0 cd0 ct0 oc1 kV1 dc1 pm1 cd1 ct1 oc2 kV2 dc2 pm2 cd2 ct2 oc3 kV3 dc3 pm3 cd3 ct3 oc4 kV4 dc4 pm4 cd4 ct4 oc5 kV5 dc5 pm5 cd5 ct5 oc6 kV6 dc6 pm6 cd6 ct6 oc7 kV7 dc7 pm7 cd7 ct7 oc8 kV8 dc8 pm8 cd8 ct8 oc9 kV9 dc9 pm9 cd9 ct9 oc10 kV10 dc10 pm10 cd10 ct10 oc11 kV11 dc11 pm11 cd11 ct11 oc12 kV12 dc12 pm12 cd12 ct12 oc13 kV13 dc13 pm13 cd13 ct13 oc14 kV14 dc14 pm14 cd14 ct14 oc15 kV15 dc15 pm15 cd15 ct15 oc16 kV16 dc16 pm16 cd16 ct16 oc17 kV17 dc17 pm17 cd17 ct17 oc18 kV18 dc18 pm18 cd18 ct18 oc19 kV19 dc19 pm19 cd19 ct19 : Value}
   (a0 : PySem.W.nsIn K mainGlobals "is_name" = some (some (.ref f0))) (l0 : K.lookup f0 = some ⟨oc0, od0, .func (PySem.W.fnOf "is_name" "is_name" (defArgs s_is_name) (defBody s_is_name) (defScope s_is_name) .none kV0 dc0 pm0 an0 cd0 ct0), sl0⟩) (c0 : PySem.W.codeIn K cd0 "is_name" = true) (k0 : PySem.W.keepIn K (.ref f0) = true)
   (a1 : PySem.W.nsIn K mainGlobals "is_number" = some (some (.ref f1))) (l1 : K.lookup f1 = some ⟨oc1, od1, .func (PySem.W.fnOf "is_number" "is_number" (defArgs s_is_number) (defBody s_is_number) (defScope s_is_number) .none kV1 dc1 pm1 an1 cd1 ct1), sl1⟩) (c1 : PySem.W.codeIn K cd1 "is_number" = true) (k1 : PySem.W.keepIn K (.ref f1) = true)
   (a2 : PySem.W.nsIn K mainGlobals "is_value" = some (some (.ref f2))) (l2 : K.lookup f2 = some ⟨oc2, od2, .func (PySem.W.fnOf "is_value" "is_value" (defArgs s_is_value) (defBody s_is_value) (defScope s_is_value) .none kV2 dc2 pm2 an2 cd2 ct2), sl2⟩) (c2 : PySem.W.codeIn K cd2 "is_value" = true) (k2 : PySem.W.keepIn K (.ref f2) = true)
   (a3 : PySem.W.nsIn K mainGlobals "same_sort" = some (some (.ref f3))) (l3 : K.lookup f3 = some ⟨oc3, od3, .func (PySem.W.fnOf "same_sort" "same_sort" (defArgs s_same_sort) (defBody s_same_sort) (defScope s_same_sort) .none kV3 dc3 pm3 an3 cd3 ct3), sl3⟩) (c3 : PySem.W.codeIn K cd3 "same_sort" = true) (k3 : PySem.W.keepIn K (.ref f3) = true)
   (a4 : PySem.W.nsIn K mainGlobals "before" = some (some (.ref f4))) (l4 : K.lookup f4 = some ⟨oc4, od4, .func (PySem.W.fnOf "before" "before" (defArgs s_before) (defBody s_before) (defScope s_before) .none kV4 dc4 pm4 an4 cd4 ct4), sl4⟩) (c4 : PySem.W.codeIn K cd4 "before" = true) (k4 : PySem.W.keepIn K (.ref f4) = true)
   (a5 : PySem.W.nsIn K mainGlobals "fields_told" = some (some (.ref f5))) (l5 : K.lookup f5 = some ⟨oc5, od5, .func (PySem.W.fnOf "fields_told" "fields_told" (defArgs s_fields_told) (defBody s_fields_told) (defScope s_fields_told) .none kV5 dc5 pm5 an5 cd5 ct5), sl5⟩) (c5 : PySem.W.codeIn K cd5 "fields_told" = true) (k5 : PySem.W.keepIn K (.ref f5) = true)
   (a6 : PySem.W.nsIn K mainGlobals "is_test" = some (some (.ref f6))) (l6 : K.lookup f6 = some ⟨oc6, od6, .func (PySem.W.fnOf "is_test" "is_test" (defArgs s_is_test) (defBody s_is_test) (defScope s_is_test) .none kV6 dc6 pm6 an6 cd6 ct6), sl6⟩) (c6 : PySem.W.codeIn K cd6 "is_test" = true) (k6 : PySem.W.keepIn K (.ref f6) = true)
   (a7 : PySem.W.nsIn K mainGlobals "fits" = some (some (.ref f7))) (l7 : K.lookup f7 = some ⟨oc7, od7, .func (PySem.W.fnOf "fits" "fits" (defArgs s_fits) (defBody s_fits) (defScope s_fits) .none kV7 dc7 pm7 an7 cd7 ct7), sl7⟩) (c7 : PySem.W.codeIn K cd7 "fits" = true) (k7 : PySem.W.keepIn K (.ref f7) = true)
   (a8 : PySem.W.nsIn K mainGlobals "holds" = some (some (.ref f8))) (l8 : K.lookup f8 = some ⟨oc8, od8, .func (PySem.W.fnOf "holds" "holds" (defArgs s_holds) (defBody s_holds) (defScope s_holds) .none kV8 dc8 pm8 an8 cd8 ct8), sl8⟩) (c8 : PySem.W.codeIn K cd8 "holds" = true) (k8 : PySem.W.keepIn K (.ref f8) = true)
   (a9 : PySem.W.nsIn K mainGlobals "compares" = some (some (.ref f9))) (l9 : K.lookup f9 = some ⟨oc9, od9, .func (PySem.W.fnOf "compares" "compares" (defArgs s_compares) (defBody s_compares) (defScope s_compares) .none kV9 dc9 pm9 an9 cd9 ct9), sl9⟩) (c9 : PySem.W.codeIn K cd9 "compares" = true) (k9 : PySem.W.keepIn K (.ref f9) = true)
   (a10 : PySem.W.nsIn K mainGlobals "_law_hand" = some (some (.ref f10))) (l10 : K.lookup f10 = some ⟨oc10, od10, .func (PySem.W.fnOf "_law_hand" "_law_hand" (defArgs s__law_hand) (defBody s__law_hand) (defScope s__law_hand) .none kV10 dc10 pm10 an10 cd10 ct10), sl10⟩) (c10 : PySem.W.codeIn K cd10 "_law_hand" = true) (k10 : PySem.W.keepIn K (.ref f10) = true)
   (a11 : PySem.W.nsIn K mainGlobals "_law_draw" = some (some (.ref f11))) (l11 : K.lookup f11 = some ⟨oc11, od11, .func (PySem.W.fnOf "_law_draw" "_law_draw" (defArgs s__law_draw) (defBody s__law_draw) (defScope s__law_draw) .none kV11 dc11 pm11 an11 cd11 ct11), sl11⟩) (c11 : PySem.W.codeIn K cd11 "_law_draw" = true) (k11 : PySem.W.keepIn K (.ref f11) = true)
   (a12 : PySem.W.nsIn K mainGlobals "_law_word" = some (some (.ref f12))) (l12 : K.lookup f12 = some ⟨oc12, od12, .func (PySem.W.fnOf "_law_word" "_law_word" (defArgs s__law_word) (defBody s__law_word) (defScope s__law_word) .none kV12 dc12 pm12 an12 cd12 ct12), sl12⟩) (c12 : PySem.W.codeIn K cd12 "_law_word" = true) (k12 : PySem.W.keepIn K (.ref f12) = true)
   (a13 : PySem.W.nsIn K mainGlobals "_law_value" = some (some (.ref f13))) (l13 : K.lookup f13 = some ⟨oc13, od13, .func (PySem.W.fnOf "_law_value" "_law_value" (defArgs s__law_value) (defBody s__law_value) (defScope s__law_value) .none kV13 dc13 pm13 an13 cd13 ct13), sl13⟩) (c13 : PySem.W.codeIn K cd13 "_law_value" = true) (k13 : PySem.W.keepIn K (.ref f13) = true)
   (a14 : PySem.W.nsIn K mainGlobals "_law_fields" = some (some (.ref f14))) (l14 : K.lookup f14 = some ⟨oc14, od14, .func (PySem.W.fnOf "_law_fields" "_law_fields" (defArgs s__law_fields) (defBody s__law_fields) (defScope s__law_fields) .none kV14 dc14 pm14 an14 cd14 ct14), sl14⟩) (c14 : PySem.W.codeIn K cd14 "_law_fields" = true) (k14 : PySem.W.keepIn K (.ref f14) = true)
   (a15 : PySem.W.nsIn K mainGlobals "_law_test" = some (some (.ref f15))) (l15 : K.lookup f15 = some ⟨oc15, od15, .func (PySem.W.fnOf "_law_test" "_law_test" (defArgs s__law_test) (defBody s__law_test) (defScope s__law_test) .none kV15 dc15 pm15 an15 cd15 ct15), sl15⟩) (c15 : PySem.W.codeIn K cd15 "_law_test" = true) (k15 : PySem.W.keepIn K (.ref f15) = true)
   (a16 : PySem.W.nsIn K mainGlobals "_law_is_number" = some (some (.ref f16))) (l16 : K.lookup f16 = some ⟨oc16, od16, .func (PySem.W.fnOf "_law_is_number" "_law_is_number" (defArgs s__law_is_number) (defBody s__law_is_number) (defScope s__law_is_number) .none kV16 dc16 pm16 an16 cd16 ct16), sl16⟩) (c16 : PySem.W.codeIn K cd16 "_law_is_number" = true) (k16 : PySem.W.keepIn K (.ref f16) = true)
   (a17 : PySem.W.nsIn K mainGlobals "_law_of_value" = some (some (.ref f17))) (l17 : K.lookup f17 = some ⟨oc17, od17, .func (PySem.W.fnOf "_law_of_value" "_law_of_value" (defArgs s__law_of_value) (defBody s__law_of_value) (defScope s__law_of_value) .none kV17 dc17 pm17 an17 cd17 ct17), sl17⟩) (c17 : PySem.W.codeIn K cd17 "_law_of_value" = true) (k17 : PySem.W.keepIn K (.ref f17) = true)
   (a18 : PySem.W.nsIn K mainGlobals "_law_joined" = some (some (.ref f18))) (l18 : K.lookup f18 = some ⟨oc18, od18, .func (PySem.W.fnOf "_law_joined" "_law_joined" (defArgs s__law_joined) (defBody s__law_joined) (defScope s__law_joined) .none kV18 dc18 pm18 an18 cd18 ct18), sl18⟩) (c18 : PySem.W.codeIn K cd18 "_law_joined" = true) (k18 : PySem.W.keepIn K (.ref f18) = true)
   (a19 : PySem.W.nsIn K mainGlobals "law" = some (some (.ref f19))) (l19 : K.lookup f19 = some ⟨oc19, od19, .func (PySem.W.fnOf "law" "law" (defArgs s_law) (defBody s_law) (defScope s_law) .none kV19 dc19 pm19 an19 cd19 ct19), sl19⟩) (c19 : PySem.W.codeIn K cd19 "law" = true) (k19 : PySem.W.keepIn K (.ref f19) = true)
   (z_abs : PySem.W.nsIn K mainGlobals "abs" = some none)
   (z_all : PySem.W.nsIn K mainGlobals "all" = some none)
   (z_bool : PySem.W.nsIn K mainGlobals "bool" = some none)
   (z_dict : PySem.W.nsIn K mainGlobals "dict" = some none)
   (z_enumerate : PySem.W.nsIn K mainGlobals "enumerate" = some none)
   (z_int : PySem.W.nsIn K mainGlobals "int" = some none)
   (z_isinstance : PySem.W.nsIn K mainGlobals "isinstance" = some none)
   (z_len : PySem.W.nsIn K mainGlobals "len" = some none)
   (z_range : PySem.W.nsIn K mainGlobals "range" = some none)
   (z_sorted : PySem.W.nsIn K mainGlobals "sorted" = some none)
   (z_str : PySem.W.nsIn K mainGlobals "str" = some none)
   (z_tuple : PySem.W.nsIn K mainGlobals "tuple" = some none)
   {tk_LONGEST_NAME_1 : Tok} (c_LONGEST_NAME : PySem.W.nsIn K mainGlobals "LONGEST_NAME" = some (some (.int 8 tk_LONGEST_NAME_1)))
   : ∃ t, Txt K mg t ∧ t.f_law = f19 ∧ t.d_law = PySem.W.fnOf "law" "law" (defArgs s_law) (defBody s_law) (defScope s_law) .none kV19 dc19 pm19 an19 cd19 ct19 := by
 have F0 := fun_mk (st := s_is_name) l0 c0 k0
 have b0 := F0.binds (ps := ["thing"]) fun _ _ _ _ _ _ us hl => match us, hl with | [_], _ => rfl
 have F1 := fun_mk (st := s_is_number) l1 c1 k1
 have b1 := F1.binds (ps := ["thing"]) fun _ _ _ _ _ _ us hl => match us, hl with | [_], _ => rfl
 have F2 := fun_mk (st := s_is_value) l2 c2 k2
 have b2 := F2.binds (ps := ["thing"]) fun _ _ _ _ _ _ us hl => match us, hl with | [_], _ => rfl
 have F3 := fun_mk (st := s_same_sort) l3 c3 k3
 have b3 := F3.binds (ps := ["one", "other"]) fun _ _ _ _ _ _ us hl => match us, hl with | [_, _], _ => rfl
 have F4 := fun_mk (st := s_before) l4 c4 k4
 have b4 := F4.binds (ps := ["one", "other"]) fun _ _ _ _ _ _ us hl => match us, hl with | [_, _], _ => rfl
 have F5 := fun_mk (st := s_fields_told) l5 c5 k5
 have b5 := F5.binds (ps := ["fields"]) fun _ _ _ _ _ _ us hl => match us, hl with | [_], _ => rfl
 have F6 := fun_mk (st := s_is_test) l6 c6 k6
 have b6 := F6.binds (ps := ["thing"]) fun _ _ _ _ _ _ us hl => match us, hl with | [_], _ => rfl
 have F7 := fun_mk (st := s_fits) l7 c7 k7
 have b7 := F7.binds (ps := ["test", "fields"]) fun _ _ _ _ _ _ us hl => match us, hl with | [_, _], _ => rfl
 have F8 := fun_mk (st := s_holds) l8 c8 k8
 have b8 := F8.binds (ps := ["test", "held"]) fun _ _ _ _ _ _ us hl => match us, hl with | [_, _], _ => rfl
 have F9 := fun_mk (st := s_compares) l9 c9 k9
 have b9 := F9.binds (ps := ["word", "value", "bound"]) fun _ _ _ _ _ _ us hl => match us, hl with | [_, _, _], _ => rfl
 have F10 := fun_mk (st := s__law_hand) l10 c10 k10
 have b10 := F10.binds (ps := ["_law_script"]) fun _ _ _ _ _ _ us hl => match us, hl with | [_], _ => rfl
 have F11 := fun_mk (st := s__law_draw) l11 c11 k11
 have b11 := F11.binds (ps := ["_law_hand_here", "_law_many"]) fun _ _ _ _ _ _ us hl => match us, hl with | [_, _], _ => rfl
 have F12 := fun_mk (st := s__law_word) l12 c12 k12
 have b12 := F12.binds (ps := ["_law_hand_here"]) fun _ _ _ _ _ _ us hl => match us, hl with | [_], _ => rfl
 have F13 := fun_mk (st := s__law_value) l13 c13 k13
 have b13 := F13.binds (ps := ["_law_hand_here"]) fun _ _ _ _ _ _ us hl => match us, hl with | [_], _ => rfl
 have F14 := fun_mk (st := s__law_fields) l14 c14 k14
 have b14 := F14.binds (ps := ["_law_hand_here", "_law_most"]) fun _ _ _ _ _ _ us hl => match us, hl with | [_, _], _ => rfl
 have F15 := fun_mk (st := s__law_test) l15 c15 k15
 have b15 := F15.binds (ps := ["_law_hand_here", "_law_deep"]) fun _ _ _ _ _ _ us hl => match us, hl with | [_, _], _ => rfl
 have F16 := fun_mk (st := s__law_is_number) l16 c16 k16
 have b16 := F16.binds (ps := ["_law_thing"]) fun _ _ _ _ _ _ us hl => match us, hl with | [_], _ => rfl
 have F17 := fun_mk (st := s__law_of_value) l17 c17 k17
 have b17 := F17.binds (ps := ["_law_fields_here", "_law_name", "_law_value_here"]) fun _ _ _ _ _ _ us hl => match us, hl with | [_, _, _], _ => rfl
 have F18 := fun_mk (st := s__law_joined) l18 c18 k18
 have b18 := F18.binds (ps := ["_law_word_here", "_law_tests"]) fun _ _ _ _ _ _ us hl => match us, hl with | [_, _], _ => rfl
 have F19 := fun_mk (st := s_law) l19 c19 k19
 have b19 := F19.binds (ps := ["_law_script"]) fun _ _ _ _ _ _ us hl => match us, hl with | [_], _ => rfl
 exact ⟨⟨f0, _, f1, _, f2, _, f3, _, f4, _, f5, _, f6, _, f7, _, f8, _, f9, _, f10, _, f11, _, f12, _, f13, _, f14, _, f15, _, f16, _, f17, _, f18, _, f19, _, _⟩, ⟨F0, b0, PySem.W.mg_of X G a0, F1, b1, PySem.W.mg_of X G a1, F2, b2, PySem.W.mg_of X G a2, F3, b3, PySem.W.mg_of X G a3, F4, b4, PySem.W.mg_of X G a4, F5, b5, PySem.W.mg_of X G a5, F6, b6, PySem.W.mg_of X G a6, F7, b7, PySem.W.mg_of X G a7, F8, b8, PySem.W.mg_of X G a8, F9, b9, PySem.W.mg_of X G a9, F10, b10, PySem.W.mg_of X G a10, F11, b11, PySem.W.mg_of X G a11, F12, b12, PySem.W.mg_of X G a12, F13, b13, PySem.W.mg_of X G a13, F14, b14, PySem.W.mg_of X G a14, F15, b15, PySem.W.mg_of X G a15, F16, b16, PySem.W.mg_of X G a16, F17, b17, PySem.W.mg_of X G a17, F18, b18, PySem.W.mg_of X G a18, F19, b19, PySem.W.mg_of X G a19, PySem.W.mg_none_of X G z_abs, PySem.W.mg_none_of X G z_all, PySem.W.mg_none_of X G z_bool, PySem.W.mg_none_of X G z_dict, PySem.W.mg_none_of X G z_enumerate, PySem.W.mg_none_of X G z_int, PySem.W.mg_none_of X G z_isinstance, PySem.W.mg_none_of X G z_len, PySem.W.mg_none_of X G z_range, PySem.W.mg_none_of X G z_sorted, PySem.W.mg_none_of X G z_str, PySem.W.mg_none_of X G z_tuple, PySem.W.mg_of X G c_LONGEST_NAME, const_int⟩, rfl, rfl⟩
end K06
open PySem PySem.W PyProof.Rows
set_option maxRecDepth 100000 in
set_option maxHeartbeats 0 in
theorem PySem.Challenge.cw_webstore_k06_whole_tests_together_holds : PySem.Challenge.rw_webstore_k06_whole_tests_together.Holds := by
 w_on; o_law; k_head; (case hw => w_witness2)
 k_fill
 refine L2.walk_ofK (l := PySem.Challenge.rw_webstore_k06_whole_tests_together) (n := 63) (k := 20) (x := "_law_script") (CX := L2.CX0) (sp := L2.spLaw) rfl (by decide) rfl ⟨rfl, by decide, by decide⟩ (fun w h Y => PySem.W.kIn_of Y) ?F ?S ?C
 case F =>
   intro w mg fa h KX G hmg
   have Z : ∃ f kV dc pm an cd ct t, K06.Txt (L2.KOf KX) mg t ∧ t.f_law = f ∧ t.d_law = PySem.W.fnOf "law" "law" (L2.defArgs K06.s_law) (L2.defBody K06.s_law) (L2.defScope K06.s_law) .none kV dc pm an cd ct := by
     dsimp only [L2.KOf]
     refine' ⟨_, _, _, _, _, _, _, K06.txt_mk KX G ?a0 ?l0 ?c0 ?k0 ?a1 ?l1 ?c1 ?k1 ?a2 ?l2 ?c2 ?k2 ?a3 ?l3 ?c3 ?k3 ?a4 ?l4 ?c4 ?k4 ?a5 ?l5 ?c5 ?k5 ?a6 ?l6 ?c6 ?k6 ?a7 ?l7 ?c7 ?k7 ?a8 ?l8 ?c8 ?k8 ?a9 ?l9 ?c9 ?k9 ?a10 ?l10 ?c10 ?k10 ?a11 ?l11 ?c11 ?k11 ?a12 ?l12 ?c12 ?k12 ?a13 ?l13 ?c13 ?k13 ?a14 ?l14 ?c14 ?k14 ?a15 ?l15 ?c15 ?k15 ?a16 ?l16 ?c16 ?k16 ?a17 ?l17 ?c17 ?k17 ?a18 ?l18 ?c18 ?k18 ?a19 ?l19 ?c19 ?k19 ?z_abs ?z_all ?z_bool ?z_dict ?z_enumerate ?z_int ?z_isinstance ?z_len ?z_range ?z_sorted ?z_str ?z_tuple ?c_LONGEST_NAME⟩
     (case a0 => k_is)
     (case l0 => k_is)
     (case c0 => k_is)
     (case k0 => k_is)
     (case a1 => k_is)
     (case l1 => k_is)
     (case c1 => k_is)
     (case k1 => k_is)
     (case a2 => k_is)
     (case l2 => k_is)
     (case c2 => k_is)
     (case k2 => k_is)
     (case a3 => k_is)
     (case l3 => k_is)
     (case c3 => k_is)
     (case k3 => k_is)
     (case a4 => k_is)
     (case l4 => k_is)
     (case c4 => k_is)
     (case k4 => k_is)
     (case a5 => k_is)
     (case l5 => k_is)
     (case c5 => k_is)
     (case k5 => k_is)
     (case a6 => k_is)
     (case l6 => k_is)
     (case c6 => k_is)
     (case k6 => k_is)
     (case a7 => k_is)
     (case l7 => k_is)
     (case c7 => k_is)
     (case k7 => k_is)
     (case a8 => k_is)
     (case l8 => k_is)
     (case c8 => k_is)
     (case k8 => k_is)
     (case a9 => k_is)
     (case l9 => k_is)
     (case c9 => k_is)
     (case k9 => k_is)
     (case a10 => k_is)
     (case l10 => k_is)
     (case c10 => k_is)
     (case k10 => k_is)
     (case a11 => k_is)
     (case l11 => k_is)
     (case c11 => k_is)
     (case k11 => k_is)
     (case a12 => k_is)
     (case l12 => k_is)
     (case c12 => k_is)
     (case k12 => k_is)
     (case a13 => k_is)
     (case l13 => k_is)
     (case c13 => k_is)
     (case k13 => k_is)
     (case a14 => k_is)
     (case l14 => k_is)
     (case c14 => k_is)
     (case k14 => k_is)
     (case a15 => k_is)
     (case l15 => k_is)
     (case c15 => k_is)
     (case k15 => k_is)
     (case a16 => k_is)
     (case l16 => k_is)
     (case c16 => k_is)
     (case k16 => k_is)
     (case a17 => k_is)
     (case l17 => k_is)
     (case c17 => k_is)
     (case k17 => k_is)
     (case a18 => k_is)
     (case l18 => k_is)
     (case c18 => k_is)
     (case k18 => k_is)
     (case a19 => k_is)
     (case l19 => k_is)
     (case c19 => k_is)
     (case k19 => k_is)
     (case z_abs => k_is)
     (case z_all => k_is)
     (case z_bool => k_is)
     (case z_dict => k_is)
     (case z_enumerate => k_is)
     (case z_int => k_is)
     (case z_isinstance => k_is)
     (case z_len => k_is)
     (case z_range => k_is)
     (case z_sorted => k_is)
     (case z_str => k_is)
     (case z_tuple => k_is)
     (case c_LONGEST_NAME => k_is)
   obtain ⟨f, kV, dc, pm, an, cd, ct, t, hT, hf, hd⟩ := Z
   have e := hmg.symm.trans hT.m_law
   rw [hf] at e
   cases e
   subst hf
   refine ⟨t.d_law, fun s u => by rw [hd]; exact .of_eq rfl, fun base kb nb => (K06.ok_law0 hT).mono (by decide)⟩
 case S => exact fun K H a ns hl hO hS => L2.spLaw_of hl hS
 case C => exact fun _ _ _ _ z => z
