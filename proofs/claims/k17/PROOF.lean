import PyProof.Rows.All
import Wide.All
import OpenK.AllK
import Wide.FinOn
import Lean
import PyProof.EqAt
import PyProof.EqKinds
import PyProof.TupleCall
import PyProof.NeKinds
import PyProof.StrLawsIn
import PyProof.Draws
import PyProof.ZipIter
import PyProof.EnumMake
import PyProof.EnumFor
import KE.KRevIter
import PyProof.CollectWalk
import KE.KItemsList
import PyProof.AttrMissSeq
import PyProof.WalksMore
import KE.KDictOf
import KE.KSortTup
import KE.KDictList
import PyProof.DictIter
import PyProof.DictWalks
import KE.KEqDict
import PyProof.Rows.StrGen4
import PyProof.StrBlockI
import PyProof.Rows.SetFrom
import PyProof.StrCalls6
import PySem.Challenge.RW_webstore_k17_ways_turned
-- CHANGE: your row's module here, as the last of these rows
set_option Elab.async false
set_option linter.all false
set_option maxRecDepth 100000
namespace L2
open PySem PySem.Spec PyProof.Rows
abbrev Key := Sum Int Str
def keyIs : Key → Value → Bool
  | .inl k, v => Value.isInt k v
  | .inr x, v => Value.isStrOf x v
def keyH (w : World) : Key → Int
  | .inl k => hashInt k
  | .inr x => hashStr w x
theorem keyIs_shape : ∀ {k : Key} {v : Value}, keyIs k v = true → (∃ i t, k = Sum.inl i ∧ v = Value.int i t) ∨ (∃ x t, k = Sum.inr x ∧ v = Value.str x t)
  | .inl i, v, h => by
    obtain ⟨t, e⟩ := Value.isInt_shape (k := i) (v := v) h
    exact .inl ⟨i, t, rfl, e⟩
  | .inr x, v, h => by
    obtain ⟨t, e⟩ := Value.isStrOf_shape (x := x) (v := v) h
    exact .inr ⟨x, t, rfl, e⟩
theorem keyIs_int (i : Int) (t : Tok) : keyIs (.inl i) (.int i t) = true := by simp [keyIs, Value.isInt]
theorem keyIs_str (x : Str) (t : Tok) : keyIs (.inr x) (.str x t) = true := by simp [keyIs, Value.isStrOf]
theorem key_ll (a b : Int) : decide ((Sum.inl a : Key) = Sum.inl b) = (a == b) := by
  by_cases e : a = b
  · subst e; simp
  · have h : ¬ (Sum.inl a : Key) = Sum.inl b := fun q => e (Sum.inl.inj q)
    rw [decide_eq_false h]
    exact (beq_eq_false_iff_ne.mpr e).symm
theorem key_rr (a b : Str) : decide ((Sum.inr a : Key) = Sum.inr b) = decide (a = b) := by
  by_cases e : a = b
  · subst e; simp
  · have h : ¬ (Sum.inr a : Key) = Sum.inr b := fun q => e (Sum.inr.inj q)
    rw [decide_eq_false h, decide_eq_false e]
theorem key_lr (a : Int) (b : Str) : decide ((Sum.inl a : Key) = Sum.inr b) = false := decide_eq_false (fun q => nomatch q)
theorem key_rl (a : Str) (b : Int) : decide ((Sum.inr a : Key) = Sum.inl b) = false := decide_eq_false (fun q => nomatch q)

def mixKind (prog : Program) (w : World) : PySem.KeyKind prog w Key where
  is := keyIs
  hash := keyH w
  inj := fun v a b ha hb => by
    rcases keyIs_shape ha with ⟨i, t, rfl, rfl⟩ | ⟨x, t, rfl, rfl⟩
    · rcases keyIs_shape hb with ⟨j, u, rfl, e⟩ | ⟨y, u, rfl, e⟩
      · injection e with e1 _; rw [e1]
      · exact nomatch e
    · rcases keyIs_shape hb with ⟨j, u, rfl, e⟩ | ⟨y, u, rfl, e⟩
      · exact nomatch e
      · injection e with e1 _; rw [e1]
  byValue := fun k v h => by
    rcases keyIs_shape h with ⟨i, t, rfl, rfl⟩ | ⟨x, t, rfl, rfl⟩ <;> rfl
  pyHash := fun hv h => by
    rcases keyIs_shape hv with ⟨i, t, rfl, rfl⟩ | ⟨x, t, rfl, rfl⟩
    · exact wpAny_pyHash_int h
    · exact wpAny_pyHash_str h
  eqBool := fun hu hv h => by
    rcases keyIs_shape hu with ⟨i, t, rfl, rfl⟩ | ⟨x, t, rfl, rfl⟩
    · rcases keyIs_shape hv with ⟨j, u, rfl, rfl⟩ | ⟨y, u, rfl, rfl⟩
      · rw [key_ll] at h; exact wpAny_eqBool_int h
      · rw [key_lr] at h; exact SeqAt.EqAt.int_str i t y u _ _ _ _ h
    · rcases keyIs_shape hv with ⟨j, u, rfl, rfl⟩ | ⟨y, u, rfl, rfl⟩
      · rw [key_rl] at h; exact SeqAt.EqAt.str_int x t j u _ _ _ _ h
      · rw [key_rr] at h; exact wpAny_eqBool_str h
  «strs» := fun k x t v h => by
    rcases keyIs_shape h with ⟨i, u, rfl, e⟩ | ⟨y, u, rfl, e⟩
    · exact nomatch e
    · injection e with e1 _
      subst e1
      cases v <;> rfl

theorem mixKind_int (prog : Program) (w : World) (i : Int) (t : Tok) : (mixKind prog w).is (.inl i) (.int i t) = true := keyIs_int i t
theorem mixKind_str (prog : Program) (w : World) (x : Str) (t : Tok) : (mixKind prog w).is (.inr x) (.str x t) = true := keyIs_str x t
end L2
namespace L2
open PySem PySem.Spec PyProof.Rows
inductive V where
  | non | bl (b : Bool) | int (i : Int) | str (x : Str) | byt (b : Array UInt8) | flt (b : UInt64) | ref (a : Addr) | ty (n : String)
  deriving DecidableEq

def RelV : V → Value → Prop
  | .non, u => u = Value.none
  | .bl b, u => u = Value.bool b
  | .int i, u => ∃ t, u = Value.int i t
  | .str x, u => ∃ t, u = Value.str x t
  | .byt b, u => ∃ t, u = Value.bytes b t
  | .flt b, u => ∃ t, u = Value.float b t
  | .ref a, u => u = Value.ref a
  | .ty n, u => u = Value.type n

abbrev Vals : List V → List Value → Prop := Paired RelV
theorem Vals.length {xs : List V} {us : List Value} (r : Vals xs us) : xs.length = us.length := Paired.length r
theorem Vals.get : ∀ {xs : List V} {us : List Value} {i : Nat} {x : V}, Vals xs us → xs[i]? = some x → ∃ u, us[i]? = some u ∧ RelV x u
  | _, _, _, _, .nil, e => by simp at e
  | _, _, 0, _, .cons r _, e => by simp at e; subst e; exact ⟨_, rfl, r⟩
  | _, _, i + 1, x, .cons _ t, e => by
    obtain ⟨u, h1, h2⟩ := Vals.get (i := i) (x := x) t (by simpa using e)
    exact ⟨u, by simpa using h1, h2⟩
theorem Vals.set {x : V} {u : Value} (r : RelV x u) : ∀ {xs : List V} {us : List Value} (i : Nat), Vals xs us → Vals (xs.set i x) (us.set i u)
  | _, _, _, .nil => .nil
  | _, _, 0, .cons _ t => .cons r t
  | _, _, i + 1, .cons q t => .cons q (Vals.set r i t)
theorem Vals.append : ∀ {xs ys : List V} {us ws : List Value}, Vals xs us → Vals ys ws → Vals (xs ++ ys) (us ++ ws)
  | _, _, _, _, .nil, s => s
  | _, _, _, _, .cons r t, s => .cons r (Vals.append t s)
theorem Vals.take : ∀ {xs : List V} {us : List Value} (n : Nat), Vals xs us → Vals (xs.take n) (us.take n)
  | _, _, 0, _ => .nil
  | _, _, _ + 1, .nil => .nil
  | _, _, n + 1, .cons r t => .cons r (Vals.take n t)
theorem Vals.drop : ∀ {xs : List V} {us : List Value} (n : Nat), Vals xs us → Vals (xs.drop n) (us.drop n)
  | _, _, 0, r => r
  | _, _, _ + 1, .nil => .nil
  | _, _, n + 1, .cons _ t => Vals.drop n t
def RelO : Option V → Option Value → Prop
  | some v, some u => RelV v u
  | none, none => True
  | _, _ => False
def KV {κ : Type} : List (κ × V) → List (κ × Value) → Prop := Paired fun (p : κ × V) (q : κ × Value) => p.1 = q.1 ∧ RelV p.2 q.2

def kV : Key → V
  | .inl i => .int i
  | .inr x => .str x

def TupC (o : Obj) : Prop := o.cls = .type "tuple" ∧ o.dict = none
def IsTupX (h : Heap) (a : Addr) (items : Array Value) : Prop := ∃ o, h.get? a = some o ∧ TupC o ∧ ∃ n, o.data = .seq items n
theorem IsTupX.tup {h : Heap} {a : Addr} {items : Array Value} (x : IsTupX h a items) : IsTup h a items := let ⟨o, h1, h2, h3⟩ := x; ⟨o, h1, h2.1, h3⟩
theorem IsTupX.lt {h : Heap} {a : Addr} {items : Array Value} (x : IsTupX h a items) : a < h.objs.size := x.tup.lt
theorem IsTupX.new (h : Heap) (items : Array Value) : IsTupX (h.push { cls := .type "tuple", data := .seq items }) h.objs.size items := ⟨_, Heap.get?_push_size _ rfl, ⟨rfl, rfl⟩, _, rfl⟩
inductive HO where
  /-- a list -/
  | lst (xs : List V)
  /-- a tuple (never changes) -/
  | tup (xs : List V)
  /-- a dict whose keys are ints and texts; one whose keys are tuples of ints and texts (the empty one is both) -/
  | dK (kvs : List (Key × V)) | dT (kvs : List (List Key × V))
  /-- a set of ints: its members, its size -/
  | set (S : Int → Bool) (n : Nat)
  /-- an instance of the class at C, its dict at dx, its attributes -/
  | ins (C dx : Addr) (fs : List (Str × V))
  /-- the dict of the instance at x -/
  | own (x : Addr)
  /-- the dict of an exception -/
  | xd (fs : List (Str × V))
  /-- a bound method, f of x -/
  | met (f x : Addr)
  /-- a range object lo, lo + 1, .. below hi -/
  | rng (lo hi : Int)
  /-- a thing that is known to the object (the script; a dict while a loop walks it): read, never written while it is so -/
  | frz (o : Obj) (u : HO)
  /-- a code object's table -/
  | tbl (ps : Array Value)
  /-- any other thing, by what is true of its one object (a def of one's own: SetO a S n := HO.ext fun h => ..) -/
  | ext (φ : Heap → Prop)

abbrev Hp := Addr → Option HO
def upd (H : Hp) (a : Addr) (o : HO) : Hp := fun b => if b = a then some o else H b
theorem upd_same {H : Hp} {a : Addr} {o : HO} : upd H a o a = some o := by unfold upd; rw [if_pos rfl]
theorem upd_ne {H : Hp} {a b : Addr} {o : HO} (h : b ≠ a) : upd H a o b = H b := by unfold upd; rw [if_neg h]
theorem ne_of_none {H : Hp} {a b : Addr} {o : HO} (h : H a = some o) (h' : H b = none) : a ≠ b := by
  intro e; subst e; rw [h] at h'; cases h'

section
variable (P : Program) (w : World)
def ObjOk (H : Hp) (h : Heap) (a : Addr) : HO → Prop
  | .lst xs => xs.length ≤ sizeLine ∧ ∃ (its : List Value) (n : Nat), Vals xs its ∧ h.get? a = some { cls := .type "list", data := .seq its.toArray n }
  | .tup xs => xs.length ≤ sizeLine ∧ ∃ its : List Value, Vals xs its ∧ IsTupX h a its.toArray
  | .dK kvs => kvs.length ≤ sizeLine ∧ (a == sysModules) = false ∧ ∃ vs, KV kvs vs ∧ h.DictOf (mixKind P w) a vs
  | .dT kvs => kvs.length ≤ sizeLine ∧ (a == sysModules) = false ∧ ∃ xs : List (List Key × Addr × Value),
      Paired (fun (p : List Key × V) (q : List Key × Addr × Value) => p.1 = q.1 ∧ H q.2.1 = some (.tup (p.1.map kV)) ∧ RelV p.2 q.2.2) kvs xs ∧
      ∃ o es ep, h.get? a = some o ∧ o.ExactDict ∧ o.data = .dict es ep ∧ es.toList = xs.map (entryOfKey (tupleKind (mixKind P w))) ∧ (xs.map (·.1)).Nodup
  | .set S n => h.SetOf (intKind P w) a S n
  | .ins C dx fs => H dx = some (.own a) ∧ fs.length ≤ 1000 ∧ dx ≠ a ∧ h.get? a = some (PySem.W.instObj C dx) ∧
      ∃ mA, h.Ns1 dx mA ∧ (∀ f, RelO (fs.lookup f) (mA f)) ∧ PySem.Within mA (fs.map (·.1))
  | .own _ => ∃ o, h.get? a = some o
  | .xd fs => ∃ mA, h.Ns1 a mA ∧ ∀ f, RelO (fs.lookup f) (mA f)
  | .rng lo hi => ∃ t u v, h.get? a = some { cls := .type "range", data := .fields #[.int lo t, .int hi u, .int 1 v] }
  | .frz o u => h.get? a = some o ∧ ObjOk H h a u
  | .tbl ps => h.get? a = some { cls := .none, data := .fields ps }
  | .met f x => h.get? a = some (PySem.W.methodObj (.ref f) (.ref x))
  | .ext φ => φ h ∧ (∃ o, h.get? a = some o) ∧ ∀ h1 h2 : Heap, φ h1 → (∀ o, h1.get? a = some o → h2.get? a = some o) → φ h2
def HOk (H : Hp) (h : Heap) : Prop := ∀ a o, H a = some o → ObjOk P w H h a o
end
section
variable {P : Program} {w : World} {H H' : Hp} {h h' : Heap} {a : Addr} {o : HO}
theorem ObjOk.lt (x : ObjOk P w H h a o) : a < h.objs.size := by
  cases o with
  | lst xs => obtain ⟨_, _, _, _, e⟩ := x; exact Heap.lt_size e
  | tup xs => obtain ⟨_, _, _, p⟩ := x; exact p.lt
  | dK kvs => obtain ⟨_, _, _, _, o, _, _, e, _⟩ := x; exact Heap.lt_size e
  | dT kvs => obtain ⟨_, _, _, _, o, _, _, e, _⟩ := x; exact Heap.lt_size e
  | set S n => obtain ⟨o, _, _, _, e, _⟩ := x; exact Heap.lt_size e
  | ins C dx fs => obtain ⟨_, _, _, e, _⟩ := x; exact Heap.lt_size e
  | own y => obtain ⟨_, e⟩ := x; exact Heap.lt_size e
  | xd fs => obtain ⟨_, ⟨_, _, _, e, _⟩, _⟩ := x; exact Heap.lt_size e
  | rng lo hi => obtain ⟨_, _, _, e⟩ := x; exact Heap.lt_size e
  | frz ob u => obtain ⟨e, _⟩ := x; exact Heap.lt_size e
  | tbl ps => exact Heap.lt_size (show h.get? a = some _ from x)
  | met f y => exact Heap.lt_size (show h.get? a = some _ from x)
  | ext φ => obtain ⟨_, ⟨_, e⟩, _⟩ := x; exact Heap.lt_size e
theorem Paired.mapP {α β : Type} {F G : α → β → Prop} : ∀ {l₁ : List α} {l₂ : List β}, Paired F l₁ l₂ → (∀ a b, F a b → G a b) → Paired G l₁ l₂
  | _, _, .nil, _ => .nil
  | _, _, .cons r t, f => .cons (f _ _ r) (Paired.mapP t f)
theorem ObjOk.stay (x : ObjOk P w H h a o) (k : ∀ b u, (b = a ∨ H b = some (.own a)) → h.get? b = some u → h'.get? b = some u)
    (ho : ∀ b, H b = some (.own a) → H' b = some (.own a)) (ht : ∀ b xs, H b = some (.tup xs) → H' b = some (.tup xs)) : ObjOk P w H' h' a o := by
  induction o with
  | lst xs => obtain ⟨z, its, n, r, e⟩ := x; exact ⟨z, its, n, r, k _ _ (.inl rfl) e⟩
  | tup xs => obtain ⟨z, its, r, ob, e, c⟩ := x; exact ⟨z, its, r, ob, k _ _ (.inl rfl) e, c⟩
  | dK kvs => obtain ⟨z, y, vs, r, ob, es, ep, e, c⟩ := x; exact ⟨z, y, vs, r, ob, es, ep, k _ _ (.inl rfl) e, c⟩
  | dT kvs =>
    obtain ⟨z, y, xs, r, ob, es, ep, e, c⟩ := x
    exact ⟨z, y, xs, Paired.mapP r fun p q z => ⟨z.1, ht _ _ z.2.1, z.2.2⟩, ob, es, ep, k _ _ (.inl rfl) e, c⟩
  | set S n => obtain ⟨ob, es, ep, t, e, c⟩ := x; exact ⟨ob, es, ep, t, k _ _ (.inl rfl) e, c⟩
  | ins C dx fs =>
    obtain ⟨d, z, ne, e, mA, ⟨od, es, ep, e2, c⟩, r⟩ := x
    exact ⟨ho _ d, z, ne, k _ _ (.inl rfl) e, mA, ⟨od, es, ep, k _ _ (.inr d) e2, c⟩, r⟩
  | own y => obtain ⟨ob, e⟩ := x; exact ⟨ob, k _ _ (.inl rfl) e⟩
  | xd fs => obtain ⟨mA, ⟨od, es, ep, e, c⟩, r⟩ := x; exact ⟨mA, ⟨od, es, ep, k _ _ (.inl rfl) e, c⟩, r⟩
  | rng lo hi => obtain ⟨t, u, v, e⟩ := x; exact ⟨t, u, v, k _ _ (.inl rfl) e⟩
  | frz ob u ih => obtain ⟨e, q⟩ := x; exact ⟨k _ _ (.inl rfl) e, ih q⟩
  | tbl ps =>
    have e : h.get? a = some { cls := .none, data := .fields ps } := x
    show h'.get? a = some { cls := .none, data := .fields ps }
    exact k a _ (.inl rfl) e
  | met f y =>
    have e : h.get? a = some (PySem.W.methodObj (.ref f) (.ref y)) := x
    show h'.get? a = some (PySem.W.methodObj (.ref f) (.ref y))
    exact k a _ (.inl rfl) e
  | ext φ => obtain ⟨p, ⟨o, e⟩, st⟩ := x; exact ⟨st _ _ p fun o q => k _ _ (.inl rfl) q, ⟨o, k _ _ (.inl rfl) e⟩, st⟩
theorem HOk.lt (x : HOk P w H h) (e : H a = some o) : a < h.objs.size := (x a o e).lt
theorem HOk.fresh (x : HOk P w H h) (e : h.objs.size ≤ a) : H a = none := by
  cases q : H a with
  | none => rfl
  | some u => exact absurd (Nat.lt_of_lt_of_le (x.lt q) e) (Nat.lt_irrefl _)
theorem HOk.kept (x : HOk P w H h) (k : ∀ b u, h.get? b = some u → h'.get? b = some u) : HOk P w H h' := fun a o e =>
  (x a o e).stay (fun b u _ q => k b u q) (fun _ q => q) fun _ _ q => q
theorem HOk.laid (x : HOk P w H h) (k : ∀ b u, h.get? b = some u → h'.get? b = some u) (hp : h.objs.size ≤ a) (new : ObjOk P w (upd H a o) h' a o) : HOk P w (upd H a o) h' := fun b u e => by
  have hn := x.fresh hp
  by_cases hb : b = a
  · subst hb; rw [upd_same] at e; cases e; exact new
  · rw [upd_ne hb] at e
    exact (x b u e).stay (fun c v _ q => k c v q) (fun c q => by rw [upd_ne (ne_of_none q hn)]; exact q) fun c xs q => by rw [upd_ne (ne_of_none q hn)]; exact q
end
def Rd (H : Hp) (a : Addr) (u : HO) : Prop := H a = some u ∨ ∃ o, H a = some (.frz o u)
theorem Rd.ok {P : Program} {w : World} {H : Hp} {h : Heap} {a : Addr} {u : HO} (r : Rd H a u) (x : HOk P w H h) : ObjOk P w H h a u := by
  rcases r with r | ⟨o, r⟩
  · exact x a u r
  · obtain ⟨_, q⟩ := x a _ r
    exact q
def Mut : Option HO → Prop
  | some (.lst _) => True
  | some (.dK _) => True
  | some (.dT _) => True
  | some (.set _ _) => True
  | some (.ins _ _ _) => True
  | some (.ext _) => True
  | _ => False
section
variable {P : Program} {w : World} {H : Hp} {h h' : Heap} {x e : Addr} {o' : HO}
theorem HOk.write (ok : HOk P w H h) (mu : Mut (H x)) (he : e = x ∨ H e = some (.own x)) (k : ∀ b u, b ≠ e → h.get? b = some u → h'.get? b = some u) (heo : ∃ u, h'.get? e = some u)
    (new : ObjOk P w (upd H x o') h' x o') : HOk P w (upd H x o') h' := fun b u q => by
  have nown : ∀ c y, H c = some (.own y) → c ≠ x := fun c y r z => by subst z; rw [r] at mu; exact mu
  have ntup : ∀ c xs, H c = some (.tup xs) → c ≠ x := fun c xs r z => by subst z; rw [r] at mu; exact mu
  by_cases hb : b = x
  · subst hb; rw [upd_same] at q; cases q; exact new
  · rw [upd_ne hb] at q
    by_cases hbe : b = e
    · have q' : H b = some (.own x) := by
        rcases he with z | z
        · exact absurd (hbe.trans z) hb
        · rw [hbe]; exact z
      rw [q] at q'; cases q'
      obtain ⟨v, hv⟩ := heo
      exact ⟨v, by rw [hbe]; exact hv⟩
    · refine (ok b u q).stay (fun c v hc r => k c v ?_ r) (fun c r => by rw [upd_ne (nown c b r)]; exact r) fun c xs r => by rw [upd_ne (ntup c xs r)]; exact r
      rcases hc with rfl | hc
      · exact hbe
      · rintro rfl
        rcases he with z | z
        · exact nown c b hc z
        · rw [hc] at z; cases z; exact hb rfl
end
structure Un (fs ex : List Addr) (H H' : Hp) (h h' : Heap) : Prop where
  keep : ∀ b o, h.get? b = some o → H b = none → b ∉ fs → b ∉ ex → h'.get? b = some o
  slot : ∀ b o, h.get? b = some o → H b = none → b ∈ fs → b ∉ ex → ∃ sl, h'.get? b = some { o with slots := sl }
  free : ∀ b o, h.get? b = some o → H b = none → b ∉ ex → H' b = none
  there : ∀ b o, h.get? b = some o → b ∉ ex → ∃ o', h'.get? b = some o'
  tups : ∀ b xs, H b = some (.tup xs) → H' b = some (.tup xs)
  frzs : ∀ b o u, H b = some (.frz o u) → H' b = some (.frz o u)
  tbls : ∀ b ps, H b = some (.tbl ps) → ∃ more, H' b = some (.tbl (ps ++ more))
section
variable {fs fs' ex ex' : List Addr} {H H1 H2 : Hp} {h h1 h2 h' : Heap} {a x e : Addr} {o : HO}
theorem Un.any (u : Un fs ex H H1 h h1) {b : Addr} {ob : Obj} (q : h.get? b = some ob) (n : H b = none) (hx : b ∉ ex) : ∃ sl, h1.get? b = some { ob with slots := sl } := by
  by_cases hb : b ∈ fs
  · exact u.slot b ob q n hb hx
  · exact ⟨ob.slots, u.keep b ob q n hb hx⟩
theorem Un.trans (a : Un fs ex H H1 h h1) (b : Un fs ex H1 H2 h1 h2) : Un fs ex H H2 h h2 where
  keep := fun c ob q n hc hx => b.keep c ob (a.keep c ob q n hc hx) (a.free c ob q n hx) hc hx
  slot := fun c ob q n hc hx => by
    obtain ⟨sl, e1⟩ := a.slot c ob q n hc hx
    obtain ⟨sl', e2⟩ := b.slot c _ e1 (a.free c ob q n hx) hc hx
    exact ⟨sl', e2⟩
  free := fun c ob q n hx => by
    obtain ⟨o', e1⟩ := a.there c ob q hx
    exact b.free c o' e1 (a.free c ob q n hx) hx
  there := fun c ob q hx => by
    obtain ⟨o', e1⟩ := a.there c ob q hx
    exact b.there c o' e1 hx
  tups := fun c xs q => b.tups c xs (a.tups c xs q)
  frzs := fun c ob xs q => b.frzs c ob xs (a.frzs c ob xs q)
  tbls := fun c ps q => by
    obtain ⟨m1, e1⟩ := a.tbls c ps q
    obtain ⟨m2, e2⟩ := b.tbls c _ e1
    exact ⟨m1 ++ m2, by rw [e2, Array.append_assoc]⟩
theorem Un.kept (k : ∀ b u, h.get? b = some u → h'.get? b = some u) : Un fs ex H H h h' :=
  ⟨fun b ob q _ _ _ => k b ob q, fun b ob q _ _ _ => ⟨ob.slots, k b ob q⟩, fun _ _ _ n _ => n, fun b ob q _ => ⟨ob, k b ob q⟩, fun _ _ q => q, fun _ _ _ q => q, fun _ ps q => ⟨#[], by rw [q]; simp⟩⟩
theorem Un.refl : Un fs ex H H h h := Un.kept fun _ _ q => q
theorem Un.laid (k : ∀ b u, h.get? b = some u → h'.get? b = some u) (hp : h.objs.size ≤ a) (hn : H a = none) : Un fs ex H (upd H a o) h h' where
  keep := fun b u q _ _ _ => k b u q
  slot := fun b u q _ _ _ => ⟨u.slots, k b u q⟩
  free := fun b u q n _ => by rw [upd_ne (Nat.ne_of_lt (Nat.lt_of_lt_of_le (Heap.lt_size q) hp))]; exact n
  there := fun b u q _ => ⟨u, k b u q⟩
  tups := fun b xs q => by rw [upd_ne (ne_of_none q hn)]; exact q
  frzs := fun b u xs q => by rw [upd_ne (ne_of_none q hn)]; exact q
  tbls := fun b ps q => ⟨#[], by rw [upd_ne (ne_of_none q hn), q]; simp⟩
theorem Un.write (mu : Mut (H x)) (he : e = x ∨ H e = some (.own x)) (k : ∀ b u, b ≠ e → h.get? b = some u → h'.get? b = some u) (heo : ∃ u, h'.get? e = some u) : Un fs ex H (upd H x o) h h' := by
  have hx : ∀ b, H b = none → b ≠ x := fun b n z => by subst z; rw [n] at mu; exact mu
  have hb : ∀ b, H b = none → b ≠ e := fun b n z => by
    subst z
    rcases he with r | r
    · exact hx b n r
    · rw [n] at r; cases r
  have hm : ∀ b u, H b = some u → ¬ Mut (some u) → b ≠ x := fun b u q nm z => by subst z; rw [q] at mu; exact nm mu
  refine ⟨fun b u q n _ _ => k b u (hb b n) q, fun b u q n _ _ => ⟨u.slots, k b u (hb b n) q⟩, fun b u q n _ => by rw [upd_ne (hx b n)]; exact n, fun b u q _ => ?_,
    fun b xs q => by rw [upd_ne (hm b _ q fun z => z)]; exact q, fun b u xs q => by rw [upd_ne (hm b _ q fun z => z)]; exact q, fun b ps q => ⟨#[], by rw [upd_ne (hm b _ q fun z => z), q]; simp⟩⟩
  by_cases hbe : b = e
  · subst hbe; exact heo
  · exact ⟨u, k b u hbe q⟩
end
def trk (h : Heap) (H : Hp) : List Addr := (List.range h.objs.size).filter fun a => (H a).isSome
def hidT (h : Heap) (H : Hp) : Heap := PySem.W.hideAll h (trk h H)
theorem hidT_size (h : Heap) (H : Hp) : (hidT h H).objs.size = h.objs.size := PySem.W.hideAll_size _ _
theorem hidT_get {h : Heap} {H : Hp} {b : Addr} {o : Obj} (e : h.get? b = some o) (n : H b = none) : (hidT h H).get? b = some o :=
  PySem.W.hideAll_get _ e fun hm => by
    have q : (H b).isSome = true := (List.mem_filter.mp hm).2
    rw [n] at q; simp at q
theorem of_hidT {h : Heap} {H : Hp} {b : Addr} {o : Obj} (e : (hidT h H).get? b = some o) : h.get? b = some o ∧ H b = none := by
  have e' : h.get? b = some o := PySem.W.of_hideAll (trk h H) e
  refine ⟨e', ?_⟩
  cases q : H b with
  | none => rfl
  | some x =>
    have hm : b ∈ trk h H := List.mem_filter.mpr ⟨List.mem_range.mpr (Heap.lt_size e'), by simp [q]⟩
    have z : (hidT h H).get? b = none := PySem.W.hideAll_none (trk h H) hm
    rw [z] at e; cases e

end L2
namespace L2
open PySem PySem.Spec PyProof.Rows
structure Mod (K : PySem.W.Frag) (mg : Str → Option Value) (base : Heap) : Prop where
  kin : K.In base
  glob : base.Ns mainGlobals mg
  blt : ∃ mb, base.Ns builtinsNs mb ∧ ∀ x : Str, x ≠ "__name__" → mb x = bootBuiltins x
  nolimit : base.NoLimit

structure Cx where
  prog : Program
  w : World
  K : PySem.W.Frag
  mg : Str → Option Value
  base : Heap
  A : Around
  N : List Str
  s₀ : Shared
  H₀ : Hp
  env : Env
  outer : List Env
  stack : List Env
  ex : List Addr
  fn : Str → Bool
  calm : Bool
  pn : List (Addr × Obj)
  xe : Value → Shared → Prop
def frs (l : List Env) : List Addr := l.filterMap (·.frame)
abbrev Cx.fs (X : Cx) : List Addr := frs X.outer

def Vis (sc : Scope) (x : Str) : Prop := sc.names.lookup x = some .local ∨ sc.names.lookup x = some .cell ∨ sc.names.lookup x = some .free
def Loc (sc : Scope) (x : Str) : Prop := sc.names.lookup x = some .local ∨ sc.names.lookup x = some .cell
def Look (env : Env) (h : Heap) (m : Str → Option Value) (x : Str) (u : Value) : Prop :=
  (env.kindOf x = some .local ∧ m x = some u) ∨ ((env.kindOf x = some .cell ∨ env.kindOf x = some .free) ∧ ∃ c, env.cells.lookup x = some c ∧ h.IsCell c (some u))

structure Cx.Ok (X : Cx) : Prop where
  mod : Mod X.K X.mg X.base
  kind : X.env.scope.kind = .function
  glob : X.env.globals = mainGlobals
  blt : X.env.builtins = builtinsNs
  above : X.s₀.heap.objs.size ≤ X.env.locals
  inj : ∀ x y c, X.env.cells.lookup x = some c → X.env.cells.lookup y = some c → x = y
  has : ∀ x, (X.env.kindOf x = some .cell ∨ X.env.kindOf x = some .free) → ∃ c, X.env.cells.lookup x = some c
  cab : ∀ x c, X.fn x = true → X.env.cells.lookup x = some c → X.s₀.heap.objs.size ≤ c
  hd : X.calm = true → X.A.handled = none
  frames : X.A.frames = some X.stack
  stk : X.stack = X.outer ∨ (X.stack = X.env :: X.outer ∧ X.env.frame = some X.env.locals)
  exf : ∀ b ∈ X.ex, b ≠ X.env.locals ∧ ∀ x c, X.env.cells.lookup x = some c → c ≠ b
  bs : ∀ b o, X.base.get? b = some o → X.s₀.heap.get? b = some o ∧ X.H₀ b = none
  bsz : X.base.objs.size ≤ X.s₀.heap.objs.size
  noex : ∀ b o, X.base.get? b = some o → b ∉ X.ex
  exfs : ∀ b ∈ X.ex, b ∉ X.fs
  funs : X.s₀.heap.FunFrames X.base X.outer
  frf : ∀ b ∈ X.fs, X.H₀ b = none

structure Inv (X : Cx) (pins : List (Addr × Obj)) (σ : List (Option V)) (H : Hp) (s : Shared) : Prop where
  ok : X.Ok
  os : s.os = X.s₀.os
  bare : AllBare s.gens
  base : Un X.fs X.ex X.H₀ H X.s₀.heap s.heap
  loc : ∃ m, s.heap.Ns X.env.locals m ∧ ∀ (i : Nat) (x : Str) (v : V), X.N[i]? = some x → σ[i]? = some (some v) → Vis X.env.scope x → ∃ u, RelV v u ∧ Look X.env s.heap m x u
  cell : ∀ x c, X.env.cells.lookup x = some c → ∃ v, s.heap.IsCell c v
  free : H X.env.locals = none
  freeC : ∀ x c, X.env.cells.lookup x = some c → H c = none
  pin : ∀ p ∈ X.pn ++ pins, s.heap.get? p.1 = some p.2 ∧ H p.1 = none ∧ p.1 ≠ X.env.locals ∧ p.1 ∉ X.fs ∧ ∀ v, p.2.data ≠ .cell v
  hok : HOk X.prog X.w H s.heap
  len : σ.length = X.N.length

section
variable {X : Cx} {pins : List (Addr × Obj)} {σ : List (Option V)} {H H' : Hp} {s : Shared} {h' : Heap}
theorem Cx.Ok.nofr (ok : X.Ok) {b : Addr} {o : Obj} (e : X.base.get? b = some o) : b ∉ X.fs := fun hb => by
  have := (ok.funs.mem hb).1
  rw [e] at this; cases this
theorem Inv.bs (I : Inv X pins σ H s) : ∀ b o, X.base.get? b = some o → s.heap.get? b = some o ∧ H b = none := fun b o e =>
  ⟨I.base.keep b o (I.ok.bs b o e).1 (I.ok.bs b o e).2 (I.ok.nofr e) (I.ok.noex b o e), I.base.free b o (I.ok.bs b o e).1 (I.ok.bs b o e).2 (I.ok.noex b o e)⟩
theorem Inv.bk (I : Inv X pins σ H s) : ∀ b o, X.base.get? b = some o → s.heap.get? b = some o := fun b o e => (I.bs b o e).1
theorem Inv.mod (I : Inv X pins σ H s) : Mod X.K X.mg X.base := I.ok.mod
theorem Inv.kIn (I : Inv X pins σ H s) : X.K.In s.heap := I.ok.mod.kin.keeps I.bk
theorem Inv.lt (I : Inv X pins σ H s) : X.env.locals < s.heap.objs.size := let ⟨_, hn, _⟩ := I.loc; hn.lt
theorem Inv.sz (I : Inv X pins σ H s) : X.s₀.heap.objs.size ≤ s.heap.objs.size := Nat.le_trans I.ok.above (Nat.le_of_lt I.lt)
theorem Inv.nofs (I : Inv X pins σ H s) {a : Addr} (h : s.heap.objs.size ≤ a) : a ∉ X.fs := fun hb => by
  obtain ⟨_, o, ho, _⟩ := I.ok.funs.mem hb
  exact absurd (Nat.lt_of_lt_of_le (Heap.lt_size ho) (Nat.le_trans I.sz h)) (Nat.lt_irrefl _)
theorem Inv.cne (I : Inv X pins σ H s) : ∀ x c, X.env.cells.lookup x = some c → c ≠ X.env.locals := fun x c e z => by
  obtain ⟨v, o, ho, hd⟩ := I.cell x c e
  obtain ⟨m, ⟨o', es, ep, ho', hd', _⟩, _⟩ := I.loc
  rw [z, ho'] at ho; cases ho; rw [hd'] at hd; cases hd
theorem Inv.funs (I : Inv X pins σ H s) : s.heap.FunFrames X.base X.outer := by
  have all : ∀ (l : List Env), (∀ b ∈ frs l, b ∈ X.fs) → X.s₀.heap.FunFrames X.base l → s.heap.FunFrames X.base l := by
    intro l
    induction l with
    | nil => intro _ _; trivial
    | cons env r ih =>
      intro hs hl
      obtain ⟨hk, ⟨L, o, hf, hn, ho, hd⟩, hr⟩ := hl
      have hL : L ∈ X.fs := hs L (by unfold frs; rw [List.filterMap_cons, hf]; exact List.mem_cons_self)
      obtain ⟨sl, e⟩ := I.base.slot L o ho (I.ok.frf L hL) hL fun z => I.ok.exfs L z hL
      exact ⟨hk, ⟨L, _, hf, hn, e, hd⟩, ih (fun b hb => hs b (by unfold frs; rw [List.filterMap_cons, hf]; exact List.mem_cons_of_mem _ hb)) hr⟩
  exact all X.outer (fun _ hb => hb) I.ok.funs

theorem Inv.stack (I : Inv X pins σ H s) : s.heap.FunFrames X.base X.stack := by
  rcases I.ok.stk with e | ⟨e, hf⟩
  · rw [e]; exact I.funs
  · rw [e]
    obtain ⟨m, hn, _⟩ := I.loc
    refine .cons (by rw [I.ok.kind]; decide) hf hn ?_ I.funs
    exact Heap.get?_none_of_le (Nat.le_trans I.ok.bsz I.ok.above)
theorem Inv.stkSub (I : Inv X pins σ H s) : ∀ b ∈ frs X.stack, b ∈ X.env.locals :: X.fs := fun b hb => by
  rcases I.ok.stk with e | ⟨e, hf⟩
  · rw [e] at hb; exact List.mem_cons_of_mem _ hb
  · rw [e] at hb
    unfold frs at hb
    rw [List.filterMap_cons, hf] at hb
    exact hb
theorem Inv.stkFree (I : Inv X pins σ H s) : ∀ b ∈ frs X.stack, H b = none := fun b hb => by
  rcases List.mem_cons.mp (I.stkSub b hb) with e | hb
  · rw [e]; exact I.free
  · obtain ⟨_, o, ho, _⟩ := I.ok.funs.mem hb
    exact I.base.free b o ho (I.ok.frf b hb) fun z => I.ok.exfs b z hb

theorem Inv.step {g' : Array GenState} {t' : Nat} {d' : Drawn} {ch : List Addr} (I : Inv X pins σ H s)
    (hch : ∀ b ∈ ch, (b ∈ X.ex ∨ X.s₀.heap.objs.size ≤ b) ∧ b ≠ X.env.locals ∧ (∀ x c, X.env.cells.lookup x = some c → c ≠ b) ∧ ∀ p ∈ X.pn ++ pins, p.1 ≠ b)
    (keep : ∀ b o, b ≠ X.env.locals → b ∉ X.fs → b ∉ ch → s.heap.get? b = some o → H b = none → h'.get? b = some o)
    (slot : ∀ b o, b ≠ X.env.locals → b ∈ X.fs → b ∉ ch → s.heap.get? b = some o → H b = none → ∃ sl, h'.get? b = some { o with slots := sl }) (free : ∀ b o, b ∉ ch → s.heap.get? b = some o → H b = none → H' b = none)
    (there : ∀ b o, b ∉ ch → s.heap.get? b = some o → ∃ o', h'.get? b = some o')
    (tups : ∀ b xs, H b = some (.tup xs) → H' b = some (.tup xs)) (frzs : ∀ b o u, H b = some (.frz o u) → H' b = some (.frz o u)) (tbls : ∀ b ps, H b = some (.tbl ps) → ∃ more, H' b = some (.tbl (ps ++ more)))
    (ns : ∀ m, s.heap.Ns X.env.locals m → h'.Ns X.env.locals m) (hok : HOk X.prog X.w H' h') (hg : AllBare g') :
    Inv X pins σ H' { s with heap := h', gens := g', drawn := d', toks := t' } := by
  have neL : ∀ b o, X.s₀.heap.get? b = some o → b ≠ X.env.locals := fun b o e => Nat.ne_of_lt (Nat.lt_of_lt_of_le (Heap.lt_size e) I.ok.above)
  have neC : ∀ b o, X.s₀.heap.get? b = some o → b ∉ X.ex → b ∉ ch := fun b o e hx hb => by
    rcases (hch b hb).1 with z | z
    · exact hx z
    · exact absurd (Nat.lt_of_lt_of_le (Heap.lt_size e) z) (Nat.lt_irrefl _)
  have cellK : ∀ x c, X.env.cells.lookup x = some c → ∀ v, s.heap.IsCell c v → h'.IsCell c v := fun x c e v ⟨o, ho, hd⟩ => by
    have nch : c ∉ ch := fun z => (hch c z).2.2.1 x c e rfl
    by_cases hc : c ∈ X.fs
    · obtain ⟨sl, q⟩ := slot c o (I.cne x c e) hc nch ho (I.freeC x c e)
      exact ⟨_, q, hd⟩
    · exact ⟨o, keep c o (I.cne x c e) hc nch ho (I.freeC x c e), hd⟩
  refine ⟨I.ok, I.os, hg, ⟨fun b o e n hb hx => ?_, fun b o e n hb hx => ?_, fun b o e n hx => ?_, fun b o e hx => ?_, fun b xs e => tups b xs (I.base.tups b xs e), fun b o xs e => frzs b o xs (I.base.frzs b o xs e), fun b ps e => ?_⟩, ?_, fun x c e => ?_, ?_, fun x c e => ?_, fun p hp => ?_, hok, I.len⟩
  · exact keep b o (neL b o e) hb (neC b o e hx) (I.base.keep b o e n hb hx) (I.base.free b o e n hx)
  · obtain ⟨sl, e1⟩ := I.base.slot b o e n hb hx
    obtain ⟨sl', e2⟩ := slot b _ (neL b o e) hb (neC b o e hx) e1 (I.base.free b o e n hx)
    exact ⟨sl', e2⟩
  · obtain ⟨o', e1⟩ := I.base.there b o e hx
    exact free b o' (neC b o e hx) e1 (I.base.free b o e n hx)
  · obtain ⟨o', e1⟩ := I.base.there b o e hx
    exact there b o' (neC b o e hx) e1
  · obtain ⟨m1, e1⟩ := I.base.tbls b ps e
    obtain ⟨m2, e2⟩ := tbls b _ e1
    exact ⟨m1 ++ m2, by rw [e2, Array.append_assoc]⟩
  · obtain ⟨m, hn, hl⟩ := I.loc
    refine ⟨m, ns m hn, fun i x v e1 e2 e3 => ?_⟩
    obtain ⟨u, r, l⟩ := hl i x v e1 e2 e3
    refine ⟨u, r, ?_⟩
    rcases l with l | ⟨k, c, e, z⟩
    · exact .inl l
    · exact .inr ⟨k, c, e, cellK x c e _ z⟩
  · obtain ⟨v, z⟩ := I.cell x c e
    exact ⟨v, cellK x c e v z⟩
  · obtain ⟨m, ⟨o, _, _, ho, _⟩, _⟩ := I.loc
    exact free _ o (fun z => (hch _ z).2.1 rfl) ho I.free
  · obtain ⟨v, o, ho, hd⟩ := I.cell x c e
    exact free c o (fun z => (hch c z).2.2.1 x c e rfl) ho (I.freeC x c e)
  · obtain ⟨e, n, ne, nf, d⟩ := I.pin p hp
    have nch : p.1 ∉ ch := fun z => (hch p.1 z).2.2.2 p hp rfl
    exact ⟨keep p.1 p.2 ne nf nch e n, free p.1 p.2 nch e n, ne, nf, d⟩
theorem Inv.un {t' : Nat} (I : Inv X pins σ H s) (u : Un X.fs [] H H' s.heap h') (hok : HOk X.prog X.w H' h') : Inv X pins σ H' { s with heap := h', toks := t' } := by
  obtain ⟨m, ⟨o, es, ep, ho, r⟩, _⟩ := id I.loc
  obtain ⟨sl, hL⟩ := u.any ho I.free (by simp)
  exact I.step (g' := s.gens) (d' := s.drawn) (ch := []) (fun _ z => nomatch z) (fun b o _ hb _ e n => u.keep b o e n hb (by simp)) (fun b o _ hb _ e n => u.slot b o e n hb (by simp)) (fun b o _ e n => u.free b o e n (by simp)) (fun b o _ e => u.there b o e (by simp)) u.tups u.frzs u.tbls (fun m' hm => by
    obtain ⟨o', es', ep', ho', r'⟩ := hm
    rw [ho] at ho'; cases ho'
    exact ⟨_, es', ep', hL, r'⟩) hok I.bare
theorem Inv.call {g' : Array GenState} {t' : Nat} {d' : Drawn} {ch : List Addr} (I : Inv X pins σ H s) (u : Un (frs X.stack) ch H H' s.heap h') (hok : HOk X.prog X.w H' h') (hg : AllBare g')
    (hch : ∀ b ∈ ch, (b ∈ X.ex ∨ X.s₀.heap.objs.size ≤ b) ∧ b ≠ X.env.locals ∧ (∀ x c, X.env.cells.lookup x = some c → c ≠ b) ∧ ∀ p ∈ X.pn ++ pins, p.1 ≠ b) :
    Inv X pins σ H' { s with heap := h', gens := g', drawn := d', toks := t' } := by
  obtain ⟨m, ⟨o, es, ep, ho, r⟩, _⟩ := id I.loc
  obtain ⟨sl, hL⟩ := u.any ho I.free fun z => (hch _ z).2.1 rfl
  exact I.step (ch := ch) hch (fun b o hL hb hc e n => u.keep b o e n (fun z => (List.mem_cons.mp (I.stkSub b z)).elim hL hb) hc) (fun b o _ _ hc e n => u.any e n hc) (fun b o hc e n => u.free b o e n hc) (fun b o hc e => u.there b o e hc) u.tups u.frzs u.tbls (fun m' hm => by
    obtain ⟨o', es', ep', ho', r'⟩ := hm
    rw [ho] at ho'; cases ho'
    exact ⟨_, es', ep', hL, r'⟩) hok hg
theorem Inv.turned {t' : Nat} {it : Addr} (I : Inv X pins σ H s) (k : ∀ b o, b ≠ it → s.heap.get? b = some o → h'.get? b = some o) (hn : H it = none) (hL : it ≠ X.env.locals)
    (h1 : it ∈ X.ex ∨ X.s₀.heap.objs.size ≤ it) (h2 : ∀ x c, X.env.cells.lookup x = some c → c ≠ it) (h3 : ∀ p ∈ X.pn ++ pins, p.1 ≠ it) : Inv X pins σ H { s with heap := h', toks := t' } := by
  have nit : ∀ b u, H b = some u → b ≠ it := fun b u e z => by rw [z, hn] at e; cases e
  refine I.step (g' := s.gens) (d' := s.drawn) (ch := [it]) (fun b hb => ?_) (fun b o _ _ hc e _ => k b o (fun z => hc (by simp [z])) e) (fun b o _ _ hc e _ => ⟨o.slots, k b o (fun z => hc (by simp [z])) e⟩) (fun _ _ _ _ n => n)
    (fun b o hc e => ⟨o, k b o (fun z => hc (by simp [z])) e⟩) (fun _ _ e => e) (fun _ _ _ e => e) (fun b ps e => ⟨#[], by rw [e]; simp⟩) (fun m hm => ?_) (fun b u e => ?_) I.bare
  · have e : b = it := by simpa using hb
    subst e
    exact ⟨h1, hL, h2, h3⟩
  · obtain ⟨o, es, ep, ho, r⟩ := hm
    exact ⟨o, es, ep, k _ o (Ne.symm hL) ho, r⟩
  · refine (I.hok b u e).stay (fun c v hc q => k c v ?_ q) (fun _ q => q) fun _ _ q => q
    rcases hc with z | z
    · rw [z]; exact nit b u e
    · exact nit c _ z
theorem Inv.tok (I : Inv X pins σ H s) (t : Nat) : Inv X pins σ H { s with toks := t } := I.un (h' := s.heap) (t' := t) Un.refl I.hok
theorem Inv.kept {t' : Nat} (I : Inv X pins σ H s) (k : ∀ b u, s.heap.get? b = some u → h'.get? b = some u) : Inv X pins σ H { s with heap := h', toks := t' } := I.un (Un.kept k) (I.hok.kept k)
theorem Inv.laid {a : Addr} {o : HO} {t' : Nat} (I : Inv X pins σ H s) (k : ∀ b u, s.heap.get? b = some u → h'.get? b = some u) (hp : s.heap.objs.size ≤ a) (new : ObjOk X.prog X.w (upd H a o) h' a o) :
    Inv X pins σ (upd H a o) { s with heap := h', toks := t' } := I.un (Un.laid k hp (I.hok.fresh hp)) (I.hok.laid k hp new)
theorem Inv.write {x e : Addr} {o : HO} {t' : Nat} (I : Inv X pins σ H s) (mu : Mut (H x)) (he : e = x ∨ H e = some (.own x)) (k : ∀ b u, b ≠ e → s.heap.get? b = some u → h'.get? b = some u) (heo : ∃ u, h'.get? e = some u)
    (new : ObjOk X.prog X.w (upd H x o) h' x o) : Inv X pins σ (upd H x o) { s with heap := h', toks := t' } := I.un (Un.write mu he k heo) (I.hok.write mu he k heo new)
theorem Inv.weak {σ' : List (Option V)} (I : Inv X pins σ H s) (hl : σ'.length = σ.length) (w : ∀ (i : Nat) v, σ'[i]? = some (some v) → σ[i]? = some (some v)) : Inv X pins σ' H s :=
  ⟨I.ok, I.os, I.bare, I.base, let ⟨m, hn, hl'⟩ := I.loc; ⟨m, hn, fun i x v e1 e2 e3 => hl' i x v e1 (w i v e2) e3⟩, I.cell, I.free, I.freeC, I.pin, I.hok, hl.trans I.len⟩
theorem Inv.pins_of {pins' : List (Addr × Obj)} (I : Inv X pins σ H s) (h : ∀ p ∈ pins', s.heap.get? p.1 = some p.2 ∧ H p.1 = none ∧ p.1 ≠ X.env.locals ∧ p.1 ∉ X.fs ∧ ∀ v, p.2.data ≠ .cell v) : Inv X pins' σ H s :=
  ⟨I.ok, I.os, I.bare, I.base, I.loc, I.cell, I.free, I.freeC, fun p hp => (List.mem_append.mp hp).elim (fun z => I.pin p (List.mem_append_left _ z)) (h p), I.hok, I.len⟩

theorem nodup_ix {N : List Str} (hN : N.Nodup) {i j : Nat} {x : Str} (a : N[i]? = some x) (b : N[j]? = some x) : i = j := by
  obtain ⟨h1, e1⟩ := List.getElem?_eq_some_iff.mp a
  obtain ⟨h2, e2⟩ := List.getElem?_eq_some_iff.mp b
  exact (List.getElem_inj hN).mp (e1.trans e2.symm)

theorem store_ok2 {M : Model} {A : Around} {E : Value → Shared → Prop} {i : Nat} {x : Str} {v : V} {u : Value} {Q : Unit → Shared → Prop} (I : Inv X pins σ H s) (hN : X.N.Nodup) (hi : X.N[i]? = some x) (hx : Loc X.env.scope x) (r : RelV v u)
    (h : ∀ s', Inv X pins (σ.set i (some v)) H s' → (∃ a, Heap.SameBut a s.heap s'.heap ∧ (a = X.env.locals ∨ X.env.cells.lookup x = some a)) → Q () s') (hf : X.fn x = true ∨ X.env.scope.names.lookup x = some .local := by first | exact .inl rfl | exact .inr rfl | assumption) : wpAny M A (storeName X.env x u) Q E s := by
  obtain ⟨m, hn, hl⟩ := id I.loc
  have hcls : (X.env.scope.kind == .class || (X.env.scope.kind == .module && X.env.locals != X.env.globals)) = false := by rw [I.ok.kind]; rfl
  have hiσ : i < σ.length := by rw [I.len]; exact (List.getElem?_eq_some_iff.mp hi).1
  have cne := I.cne
  have tracked : ∀ {a : Addr} {h' : Heap}, (∃ o, s.heap.get? a = some o ∧ H a = none) → Heap.SameBut a s.heap h' → HOk X.prog X.w H h' := fun {a h'} ha hs b ob e => by
    obtain ⟨_, _, hfree⟩ := ha
    refine (I.hok b ob e).stay (fun c w' hc q => (hs.2 c ?_).trans q) (fun _ q => q) fun _ _ q => q
    rintro rfl
    rcases hc with rfl | hc
    · rw [hfree] at e; cases e
    · rw [hfree] at hc; cases hc
  rcases hx with hk | hk
  · refine wpAny_storeName_local hk hn (fun h' hn' hs => ?_) hcls
    obtain ⟨oL, _, _, hoL, _⟩ := id hn
    refine h _ ⟨I.ok, I.os, I.bare, ⟨fun b o e n hb hx => ?_, fun b o e n hb hx => ?_, I.base.free, fun b o e hx => ?_, I.base.tups, I.base.frzs, I.base.tbls⟩, ⟨_, hn', fun j y v' e1 e2 e3 => ?_⟩, fun y c e => ?_, I.free, I.freeC, fun p hp => ?_, tracked ⟨oL, hoL, I.free⟩ hs, by simpa using I.len⟩ ⟨_, hs, .inl rfl⟩
    · exact (hs.2 b (Nat.ne_of_lt (Nat.lt_of_lt_of_le (Heap.lt_size e) I.ok.above))).trans (I.base.keep b o e n hb hx)
    · obtain ⟨sl, e1⟩ := I.base.slot b o e n hb hx
      exact ⟨sl, (hs.2 b (Nat.ne_of_lt (Nat.lt_of_lt_of_le (Heap.lt_size e) I.ok.above))).trans e1⟩
    · obtain ⟨o', e1⟩ := I.base.there b o e hx
      exact ⟨o', (hs.2 b (Nat.ne_of_lt (Nat.lt_of_lt_of_le (Heap.lt_size e) I.ok.above))).trans e1⟩
    · by_cases hj : j = i
      · subst hj
        rw [hi] at e1; cases e1
        rw [List.getElem?_set_self hiσ] at e2
        cases e2
        exact ⟨u, r, .inl ⟨hk, by simp⟩⟩
      · rw [List.getElem?_set_ne (Ne.symm hj)] at e2
        obtain ⟨u', r', q⟩ := hl j y v' e1 e2 e3
        refine ⟨u', r', ?_⟩
        rcases q with ⟨k, e⟩ | ⟨k, c, e, z⟩
        · refine .inl ⟨k, ?_⟩
          have : y ≠ x := fun e => hj (nodup_ix hN e1 (e ▸ hi))
          simp [this, e]
        · exact .inr ⟨k, c, e, z.sameBut hs (cne y c e)⟩
    · obtain ⟨w', z⟩ := I.cell y c e
      exact ⟨w', z.sameBut hs (cne y c e)⟩
    · obtain ⟨e, n, ne, nf, d⟩ := I.pin p hp
      exact ⟨(hs.2 p.1 ne).trans e, n, ne, nf, d⟩
  · have hfn : X.fn x = true := by
      rcases hf with z | z
      · exact z
      · rw [z] at hk; cases hk
    obtain ⟨c, hc⟩ := I.ok.has x (.inl hk)
    obtain ⟨w', z⟩ := I.cell x c hc
    refine wpAny_storeName_cell I.ok.kind hk hc z (fun h' hc' hs => ?_)
    obtain ⟨oc, hoc, hocd⟩ := id z
    refine h { s with heap := h' } ⟨I.ok, I.os, I.bare, ⟨fun b o e n hb hx => ?_, fun b o e n hb hx => ?_, I.base.free, fun b o e hx => ?_, I.base.tups, I.base.frzs, I.base.tbls⟩, ⟨m, hn.sameBut hs (Ne.symm (cne x c hc)), fun j y v' e1 e2 e3 => ?_⟩, fun y c' e => ?_, I.free, I.freeC, fun p hp => ?_, tracked ⟨oc, hoc, I.freeC x c hc⟩ hs, by simpa using I.len⟩ ⟨c, hs, .inr hc⟩
    · exact (hs.2 b (Nat.ne_of_lt (Nat.lt_of_lt_of_le (Heap.lt_size e) (I.ok.cab x c hfn hc)))).trans (I.base.keep b o e n hb hx)
    · obtain ⟨sl, e1⟩ := I.base.slot b o e n hb hx
      exact ⟨sl, (hs.2 b (Nat.ne_of_lt (Nat.lt_of_lt_of_le (Heap.lt_size e) (I.ok.cab x c hfn hc)))).trans e1⟩
    · obtain ⟨o', e1⟩ := I.base.there b o e hx
      exact ⟨o', (hs.2 b (Nat.ne_of_lt (Nat.lt_of_lt_of_le (Heap.lt_size e) (I.ok.cab x c hfn hc)))).trans e1⟩
    · by_cases hj : j = i
      · subst hj
        rw [hi] at e1; cases e1
        rw [List.getElem?_set_self hiσ] at e2
        cases e2
        exact ⟨u, r, .inr ⟨.inl hk, c, hc, hc'⟩⟩
      · rw [List.getElem?_set_ne (Ne.symm hj)] at e2
        obtain ⟨u', r', q⟩ := hl j y v' e1 e2 e3
        refine ⟨u', r', ?_⟩
        rcases q with q | ⟨k, c', e, z'⟩
        · exact .inl q
        · refine .inr ⟨k, c', e, z'.sameBut hs ?_⟩
          rintro rfl
          exact hj (nodup_ix hN e1 (I.ok.inj _ _ _ e hc ▸ hi))
    · by_cases hcc : c' = c
      · subst hcc; exact ⟨_, hc'⟩
      · obtain ⟨w2, z2⟩ := I.cell y c' e
        exact ⟨w2, z2.sameBut hs hcc⟩
    · obtain ⟨e, n, ne, nf, d⟩ := I.pin p hp
      refine ⟨(hs.2 p.1 ?_).trans e, n, ne, nf, d⟩
      intro q
      rw [q, hoc] at e
      have q' : oc = p.2 := Option.some.inj e
      exact d w' (by rw [← q']; exact hocd)
theorem store_ok {M : Model} {A : Around} {E : Value → Shared → Prop} {i : Nat} {x : Str} {v : V} {u : Value} {Q : Unit → Shared → Prop} (I : Inv X pins σ H s) (hN : X.N.Nodup) (hi : X.N[i]? = some x) (hx : Loc X.env.scope x) (r : RelV v u)
    (h : ∀ s', Inv X pins (σ.set i (some v)) H s' → Q () s') (hf : X.fn x = true ∨ X.env.scope.names.lookup x = some .local := by first | exact .inl rfl | exact .inr rfl | assumption) : wpAny M A (storeName X.env x u) Q E s :=
  store_ok2 I hN hi hx r (fun s' I' _ => h s' I') hf
theorem Inv.call' {s' : Shared} {ch : List Addr} (I : Inv X pins σ H s) (ho : s'.os = s.os) (u : Un (frs X.stack) ch H H' s.heap s'.heap) (hok : HOk X.prog X.w H' s'.heap) (hg : AllBare s'.gens)
    (hch : ∀ b ∈ ch, (b ∈ X.ex ∨ X.s₀.heap.objs.size ≤ b) ∧ b ≠ X.env.locals ∧ (∀ x c, X.env.cells.lookup x = some c → c ≠ b) ∧ ∀ p ∈ X.pn ++ pins, p.1 ≠ b) : Inv X pins σ H' s' := by
  obtain ⟨h', g', d', t', o'⟩ := s'
  have e : o' = s.os := ho
  subst e
  exact I.call (g' := g') (t' := t') (d' := d') u hok hg hch
end
abbrev XK := Value → Option Addr → Hp → Prop
abbrev St := List (Option V)
abbrev VK := V → Hp → Prop
abbrev TE := St → Hp → VK → Prop
abbrev TT := St → Hp → (Bool → Hp → Prop) → Prop
abbrev TA := St → Hp → (List V → Hp → Prop) → Prop
structure Ends where
  nx : St → Hp → Prop
  rt : VK
  bk : St → Hp → Prop := fun _ _ => False
  ct : St → Hp → Prop := fun _ _ => False
abbrev TS := Ends → St → Hp → Prop

def EP (X : Cx) (pins : List (Addr × Obj)) (σ : St) (Q : VK) (u : Value) (s' : Shared) : Prop := ∃ v H', Inv X pins σ H' s' ∧ RelV v u ∧ Q v H'
def TP (X : Cx) (pins : List (Addr × Obj)) (σ : St) (Q : Bool → Hp → Prop) (b : Bool) (s' : Shared) : Prop := ∃ H', Inv X pins σ H' s' ∧ Q b H'
def AP (X : Cx) (pins : List (Addr × Obj)) (σ : St) (Q : List V → Hp → Prop) (us : List Value) (s' : Shared) : Prop := ∃ vs H', Inv X pins σ H' s' ∧ Vals vs us ∧ Q vs H'
def SP (X : Cx) (pins : List (Addr × Obj)) (D : Ends) (f : Flow) (s' : Shared) : Prop :=
  match f with
  | .next => ∃ σ' H', Inv X pins σ' H' s' ∧ D.nx σ' H'
  | .brk => ∃ σ' H', Inv X pins σ' H' s' ∧ D.bk σ' H'
  | .cont => ∃ σ' H', Inv X pins σ' H' s' ∧ D.ct σ' H'
  | .ret u => ∃ v σ' H', Inv X pins σ' H' s' ∧ RelV v u ∧ D.rt v H'

def PE (X : Cx) (e : Expr) (t : TE) : Prop :=
  ∀ (pins : List (Addr × Obj)) (s : Shared) (σ : St) (H : Hp) (Q : VK), Inv X pins σ H s → t σ H Q → wpAny (model X.prog X.w) X.A (eval e X.env) (EP X pins σ Q) X.xe s
def PT (X : Cx) (e : Expr) (t : TT) : Prop :=
  ∀ (pins : List (Addr × Obj)) (s : Shared) (σ : St) (H : Hp) (Q : Bool → Hp → Prop), Inv X pins σ H s → t σ H Q → wpAny (model X.prog X.w) X.A (isTrue e X.env (eval e X.env)) (TP X pins σ Q) X.xe s
def PW (X : Cx) (e : Expr) (t : TT) : Prop :=
  ∀ (whole : Sem Value) (pins : List (Addr × Obj)) (s : Shared) (σ : St) (H : Hp) (Q : Bool → Hp → Prop), Inv X pins σ H s → t σ H Q → wpAny (model X.prog X.w) X.A (isTrue e X.env whole) (TP X pins σ Q) X.xe s
theorem PW.pt {X : Cx} {e : Expr} {t : TT} (h : PW X e t) : PT X e t := h _
def PA (X : Cx) (es : List Expr) (t : TA) : Prop :=
  ∀ (pos : Pos) (pins : List (Addr × Obj)) (s : Shared) (σ : St) (H : Hp) (Q : List V → Hp → Prop), Inv X pins σ H s → t σ H Q → wpAny (model X.prog X.w) X.A (spliced (backTo pos (starEach es X.env))) (AP X pins σ Q) X.xe s
def PS (X : Cx) (st : Stmt) (t : TS) : Prop :=
  ∀ (pins : List (Addr × Obj)) (s : Shared) (σ : St) (H : Hp) (D : Ends), Inv X pins σ H s → t D σ H → wpAny (model X.prog X.w) X.A (exec st X.env) (SP X pins D) X.xe s
def PSs (X : Cx) (st : List Stmt) (t : TS) : Prop :=
  ∀ (pins : List (Addr × Obj)) (s : Shared) (σ : St) (H : Hp) (D : Ends), Inv X pins σ H s → t D σ H → wpAny (model X.prog X.w) X.A (execs st X.env) (SP X pins D) X.xe s
theorem thn {α : Type} {t : Sem α} {Q Q' : α → Shared → Prop} {M : Model} {A : Around} {E : Value → Shared → Prop} {s : Shared} (h : wpAny M A t Q E s) (hQ : ∀ a s, Q a s → Q' a s) : wpAny M A t Q' E s := wpAny_mono h hQ fun _ _ x => x
end L2
namespace L2
open PySem PySem.Spec PyProof.Rows
section
variable {X : Cx}
def tVar (i : Nat) : TE := fun σ H Q => ∃ v, σ[i]? = some (some v) ∧ Q v H
def tC (v : V) : TE := fun _ H Q => Q v H
theorem pe_var {i : Nat} {x : Str} {pos : Pos} (hN : X.N[i]? = some x) (hv : Vis X.env.scope x) (hd : (x == ("__debug__" : Str)) = false := by decide) (hcd : (x == ("__classdict__" : Str)) = false := by decide) : PE X (.Name x pos) (tVar i) := by
  intro pins s σ H Q I h
  obtain ⟨v, e, h⟩ := h
  obtain ⟨m, hn, hl⟩ := I.loc
  obtain ⟨u, r, l⟩ := hl i x v hN e hv
  have fin : EP X pins σ Q u s := ⟨v, H, I, r, h⟩
  rcases l with ⟨hk, hm⟩ | ⟨hk, c, hc, hcell⟩
  · exact wpAny_Name (wpAny_loadName_local I.ok.kind hk hn hm fin) hd
  · rcases hk with hk | hk
    · exact wpAny_Name (wpAny_loadName_cell I.ok.kind hk hc hcell fin) hd
    · exact wpAny_Name (wpAny_loadName_free I.ok.kind hk hc hcell fin hcd) hd
theorem pe_int {i j pos} : PE X (.Constant (.int i) j pos) (tC (.int i)) := fun _ _ _ H _ I h => wpAny_Constant_int ⟨.int i, H, I.tok _, ⟨_, rfl⟩, h⟩
theorem pe_bl {b j pos} : PE X (.Constant (.bool b) j pos) (tC (.bl b)) := fun _ _ _ H _ I h => Constant_bool ⟨.bl b, H, I, rfl, h⟩
theorem pe_non {j pos} : PE X (.Constant .none j pos) (tC .non) := fun _ _ _ H _ I h => Constant_none ⟨.non, H, I, rfl, h⟩
theorem pe_str {x j pos} : PE X (.Constant (.str x) j pos) (tC (.str x)) := fun _ _ _ H _ I h => Calls.Constant_str ⟨.str x, H, I.tok _, ⟨_, rfl⟩, h⟩

def Gl (X : Cx) (x : Str) : Prop := X.env.kindOf x = some .globalImplicit
theorem ld_glob {E : Value → Shared → Prop} {pins : List (Addr × Obj)} {s : Shared} {σ : St} {H : Hp} {x : Str} {u : Value} {pos : Pos} {Q : Value → Shared → Prop} (I : Inv X pins σ H s) (hg : Gl X x) (hm : X.mg x = some u) (h : Q u s)
    (hd : (x == ("__debug__" : Str)) = false := by decide) : wpAny (model X.prog X.w) X.A (eval (.Name x pos) X.env) Q E s :=
  Calls.Name_function_global I.ok.kind hg (Calls.loadGlobal_global (by rw [I.ok.glob]; exact I.mod.glob.keeps I.bk) hm h) hd
theorem ld_blt {E : Value → Shared → Prop} {pins : List (Addr × Obj)} {s : Shared} {σ : St} {H : Hp} {x : Str} {u : Value} {pos : Pos} {Q : Value → Shared → Prop} (I : Inv X pins σ H s) (hg : Gl X x) (hm : X.mg x = none) (hv : bootBuiltins x = some u) (h : Q u s)
    (hn : x ≠ "__name__" := by decide) (hd : (x == ("__debug__" : Str)) = false := by decide) : wpAny (model X.prog X.w) X.A (eval (.Name x pos) X.env) Q E s := by
  obtain ⟨mb, h1, h2⟩ := I.mod.blt
  exact Calls.Name_function_global I.ok.kind hg (Calls.loadGlobal_builtin (by rw [I.ok.glob]; exact I.mod.glob.keeps I.bk) hm (by rw [I.ok.blt]; exact h1.keeps I.bk) ((h2 x hn).trans hv) h) hd
theorem pe_glob {x : Str} {v : V} {u : Value} {pos : Pos} (hg : Gl X x) (hm : X.mg x = some u) (r : RelV v u) (hd : (x == ("__debug__" : Str)) = false := by decide) : PE X (.Name x pos) (tC v) :=
  fun _ _ _ H _ I h => ld_glob I hg hm ⟨v, H, I, r, h⟩ hd
theorem pe_bltn {x : Str} {v : V} {u : Value} {pos : Pos} (hg : Gl X x) (hm : X.mg x = none) (hv : bootBuiltins x = some u) (r : RelV v u) (hn : x ≠ "__name__" := by decide) (hd : (x == ("__debug__" : Str)) = false := by decide) : PE X (.Name x pos) (tC v) :=
  fun _ _ _ H _ I h => ld_blt I hg hm hv ⟨v, H, I, r, h⟩ hn hd

variable {a b : Expr} {ta tb : TE} {pos : Pos}
def tB (t : TE) : TT := fun σ H Q => t σ H fun x H1 => ∃ c, x = .bl c ∧ Q c H1
theorem pt_val {e : Expr} {t : TE} (h : PE X e t) (he : ∀ whole, isTrue e X.env whole = (do let v ← whole; standAt e.pos; holding [v] (truthy v)) := by intro _; rfl) : PT X e (tB t) := by
  intro pins s σ H Q I hw
  refine isTrue_plain (thn (h pins s σ H _ I hw) fun v s1 ⟨x, H1, I1, r1, q1⟩ => ?_) (he _)
  obtain ⟨d, rfl, q⟩ := q1
  cases r1
  exact wpAny_truthy_bool ⟨H1, I1, q⟩

variable {tA tB' : TT} {rest : List Expr}
def tAnd (t u : TT) : TT := fun σ H Q => t σ H fun c H1 => if c = true then u σ H1 Q else Q false H1
def tOr (t u : TT) : TT := fun σ H Q => t σ H fun c H1 => if c = true then Q true H1 else u σ H1 Q
def tNot (t : TT) : TT := fun σ H Q => t σ H fun c H1 => Q (!c) H1
theorem pw_and1 (ha : PT X a tA) : PW X (.BoolOp .And [a] pos) tA := by
  intro wh pins s σ H Q I h
  refine isTrue_and (thn (ha pins s σ H Q I h) fun c s1 e => ?_)
  cases c with
  | true => exact isTrue_and_nil e
  | false => exact e
theorem pw_or1 (ha : PT X a tA) : PW X (.BoolOp .Or [a] pos) tA := by
  intro wh pins s σ H Q I h
  refine isTrue_or (thn (ha pins s σ H Q I h) fun c s1 e => ?_)
  cases c with
  | false => exact isTrue_or_nil e
  | true => exact e
theorem pw_and (ha : PT X a tA) (hb : PW X (.BoolOp .And (b :: rest) pos) tB') : PW X (.BoolOp .And (a :: b :: rest) pos) (tAnd tA tB') := by
  intro wh pins s σ H Q I h
  refine isTrue_and (thn (ha pins s σ H _ I h) fun c s1 ⟨H1, I1, q1⟩ => ?_)
  cases c with
  | true => exact hb wh pins s1 σ H1 Q I1 q1
  | false => exact ⟨H1, I1, q1⟩
theorem pw_or (ha : PT X a tA) (hb : PW X (.BoolOp .Or (b :: rest) pos) tB') : PW X (.BoolOp .Or (a :: b :: rest) pos) (tOr tA tB') := by
  intro wh pins s σ H Q I h
  refine isTrue_or (thn (ha pins s σ H _ I h) fun c s1 ⟨H1, I1, q1⟩ => ?_)
  cases c with
  | true => exact ⟨H1, I1, q1⟩
  | false => exact hb wh pins s1 σ H1 Q I1 q1
theorem pt_not (ha : PT X a tA) : PT X (.UnaryOp .Not a pos) (tNot tA) := by
  intro pins s σ H Q I h
  exact isTrue_not (ha pins s σ H (fun c H1 => Q (!c) H1) I h)
def tAndV (ta tb : TE) : TE := fun σ H Q => ta σ H fun x H1 => ∃ c, x = .bl c ∧ if c = true then tb σ H1 Q else Q (.bl false) H1
def tOrV (ta tb : TE) : TE := fun σ H Q => ta σ H fun x H1 => ∃ c, x = .bl c ∧ if c = true then Q (.bl true) H1 else tb σ H1 Q
def tNotV (ta : TE) : TE := fun σ H Q => ta σ H fun x H1 => ∃ c, x = .bl c ∧ Q (.bl (!c)) H1
theorem pe_one {op} {t : TE} (h : PE X a t) : PE X (.BoolOp op [a] pos) t := fun pins s σ H Q I hw => BoolOp_one (h pins s σ H Q I hw)
theorem pe_and (ha : PE X a ta) (hb : PE X (.BoolOp .And (b :: rest) pos) tb) : PE X (.BoolOp .And (a :: b :: rest) pos) (tAndV ta tb) := by
  intro pins s σ H Q I h
  refine BoolOp_and (thn (ha pins s σ H _ I h) fun v s1 ⟨x, H1, I1, r1, q1⟩ => ?_)
  obtain ⟨c, rfl, q1⟩ := q1
  cases r1
  refine wpAny_truthy_bool ?_
  cases c with
  | true => exact hb pins s1 σ H1 Q I1 q1
  | false => exact ⟨.bl false, H1, I1, rfl, q1⟩
theorem pe_or (ha : PE X a ta) (hb : PE X (.BoolOp .Or (b :: rest) pos) tb) : PE X (.BoolOp .Or (a :: b :: rest) pos) (tOrV ta tb) := by
  intro pins s σ H Q I h
  refine BoolOp_or (thn (ha pins s σ H _ I h) fun v s1 ⟨x, H1, I1, r1, q1⟩ => ?_)
  obtain ⟨c, rfl, q1⟩ := q1
  cases r1
  refine wpAny_truthy_bool ?_
  cases c with
  | false => exact hb pins s1 σ H1 Q I1 q1
  | true => exact ⟨.bl true, H1, I1, rfl, q1⟩
theorem pe_not (ha : PE X a ta) : PE X (.UnaryOp .Not a pos) (tNotV ta) := by
  intro pins s σ H Q I h
  refine UnaryOp_ (thn (ha pins s σ H _ I h) fun v s1 ⟨x, H1, I1, r1, q1⟩ => ?_)
  obtain ⟨c, rfl, q1⟩ := q1
  cases r1
  exact not_of (wpAny_truthy_bool ⟨.bl (!c), H1, I1, rfl, q1⟩)
end
end L2
namespace L2
open PySem PySem.Spec PyProof.Rows
def SqL (K : PySem.W.Frag) (H : Hp) (a : Addr) (xs : List V) : Prop :=
  Rd H a (.lst xs) ∨
    ∃ (o : Obj) (its : Array Value) (n : Nat), K.lookup a = some o ∧ o.cls = .type "list" ∧ o.dict = none ∧ o.data = .seq its n ∧ its.size ≤ sizeLine ∧ Vals xs its.toList
def SqT (K : PySem.W.Frag) (H : Hp) (a : Addr) (xs : List V) : Prop :=
  Rd H a (.tup xs) ∨
    ∃ (o : Obj) (its : Array Value) (n : Nat), K.lookup a = some o ∧ TupC o ∧ o.data = .seq its n ∧ its.size ≤ sizeLine ∧ Vals xs its.toList
def absV : Value → Option V
  | .none => some .non
  | .bool b => some (.bl b)
  | .int i _ => some (.int i)
  | .str x _ => some (.str x)
  | .bytes b _ => some (.byt b)
  | .float b _ => some (.flt b)
  | .ref a => some (.ref a)
  | .type n => some (.ty n)
  | _ => none
theorem RelV.abs {x : V} {u : Value} (r : RelV x u) : absV u = some x := by
  cases x with
  | non => cases r; rfl
  | bl _ => cases r; rfl
  | int _ => obtain ⟨t, rfl⟩ := r; rfl
  | str _ => obtain ⟨t, rfl⟩ := r; rfl
  | byt _ => obtain ⟨t, rfl⟩ := r; rfl
  | flt _ => obtain ⟨t, rfl⟩ := r; rfl
  | ref _ => cases r; rfl
  | ty _ => cases r; rfl
theorem RelV.inj {x y : V} {u : Value} (r : RelV x u) (q : RelV y u) : x = y := Option.some.inj (r.abs.symm.trans q.abs)
theorem Vals.inj : ∀ {xs ys : List V} {us : List Value}, Vals xs us → Vals ys us → xs = ys
  | _, _, _, .nil, .nil => rfl
  | _, _, _, .cons r t, .cons r' t' => by rw [r.inj r', Vals.inj t t']
section
variable {X : Cx} {pins : List (Addr × Obj)} {σ : St} {H : Hp} {s : Shared} {a : Addr} {xs ys : List V}
theorem SqL.of {K : PySem.W.Frag} (h : H a = some (.lst xs)) : SqL K H a xs := .inl (.inl h)
theorem Inv.list (I : Inv X pins σ H s) (h : SqL X.K H a xs) : ∃ its : List Value, Vals xs its ∧ PlainL s.heap a its.toArray ∧ xs.length ≤ sizeLine := by
  rcases h with h | ⟨o, its, n, hk, hc, hd, hs, hz, r⟩
  · obtain ⟨z, its, n, r, e⟩ := h.ok I.hok
    exact ⟨its, r, ⟨_, n, e, rfl, rfl, rfl⟩, z⟩
  · refine ⟨its.toList, r, ⟨o, n, I.kIn a o hk, hc, hd, by simpa using hs⟩, ?_⟩
    have e := r.length
    simp only [Array.length_toList] at e
    omega
theorem Inv.tuple (I : Inv X pins σ H s) (h : SqT X.K H a xs) : ∃ its : List Value, Vals xs its ∧ IsTup s.heap a its.toArray ∧ xs.length ≤ sizeLine := by
  rcases h with h | ⟨o, its, n, hk, hc, hs, hz, r⟩
  · obtain ⟨z, its, r, p⟩ := h.ok I.hok
    exact ⟨its, r, p.tup, z⟩
  · refine ⟨its.toList, r, ⟨o, I.kIn a o hk, hc.1, n, by simpa using hs⟩, ?_⟩
    have e := r.length
    simp only [Array.length_toList] at e
    omega
theorem Inv.list_inj (I : Inv X pins σ H s) (h : SqL X.K H a xs) (h' : SqL X.K H a ys) : xs = ys := by
  obtain ⟨its, r, ⟨o, n, e, _, _, d⟩, _⟩ := I.list h
  obtain ⟨its', r', ⟨o', n', e', _, _, d'⟩, _⟩ := I.list h'
  rw [e] at e'; cases e'
  rw [d] at d'
  injection d' with d1 _
  have : its = its' := by simpa using congrArg Array.toList d1
  subst this
  exact r.inj r'
theorem Inv.tuple_inj (I : Inv X pins σ H s) (h : SqT X.K H a xs) (h' : SqT X.K H a ys) : xs = ys := by
  obtain ⟨its, r, ⟨o, e, _, n, d⟩, _⟩ := I.tuple h
  obtain ⟨its', r', ⟨o', e', _, n', d'⟩, _⟩ := I.tuple h'
  rw [e] at e'; cases e'
  rw [d] at d'
  injection d' with d1 _
  have : its = its' := by simpa using congrArg Array.toList d1
  subst this
  exact r.inj r'
end
abbrev Cx.wish (X : Cx) (E : Value → Shared → Prop) : Cx := { X with xe := E }
abbrev Cx.nox (X : Cx) : Cx := X.wish fun _ _ => False
theorem Cx.Ok.wish {X : Cx} (ok : X.Ok) (E : Value → Shared → Prop) : (X.wish E).Ok :=
  ⟨ok.mod, ok.kind, ok.glob, ok.blt, ok.above, ok.inj, ok.has, ok.cab, ok.hd, ok.frames, ok.stk, ok.exf, ok.bs, ok.bsz, ok.noex, ok.exfs, ok.funs, ok.frf⟩
theorem Cx.Ok.unwish {X : Cx} {E : Value → Shared → Prop} (ok : (X.wish E).Ok) : X.Ok :=
  ⟨ok.mod, ok.kind, ok.glob, ok.blt, ok.above, ok.inj, ok.has, ok.cab, ok.hd, ok.frames, ok.stk, ok.exf, ok.bs, ok.bsz, ok.noex, ok.exfs, ok.funs, ok.frf⟩
section
variable {X : Cx} {pins : List (Addr × Obj)} {σ : St} {H : Hp} {s : Shared} {E : Value → Shared → Prop}
theorem Inv.wish (I : Inv X pins σ H s) (E : Value → Shared → Prop) : Inv (X.wish E) pins σ H s := ⟨I.ok.wish E, I.os, I.bare, I.base, I.loc, I.cell, I.free, I.freeC, I.pin, I.hok, I.len⟩
theorem Inv.unwish (I : Inv (X.wish E) pins σ H s) : Inv X pins σ H s := ⟨I.ok.unwish, I.os, I.bare, I.base, I.loc, I.cell, I.free, I.freeC, I.pin, I.hok, I.len⟩
theorem SP.unwish {D : Ends} {f : Flow} {s' : Shared} (h : SP (X.wish E) pins D f s') : SP X pins D f s' := by
  cases f with
  | next => obtain ⟨σ', H', I, q⟩ := h; exact ⟨σ', H', I.unwish, q⟩
  | brk => obtain ⟨σ', H', I, q⟩ := h; exact ⟨σ', H', I.unwish, q⟩
  | cont => obtain ⟨σ', H', I, q⟩ := h; exact ⟨σ', H', I.unwish, q⟩
  | ret u => obtain ⟨v, σ', H', I, r, q⟩ := h; exact ⟨v, σ', H', I.unwish, r, q⟩
theorem PSs.nox {st : List Stmt} {t : TS} (h : PSs X.nox st t) : PSs X st t := fun pins s σ H D I hw =>
  wpAny_mono (h pins s σ H D (I.wish _) hw) (fun _ _ q => q.unwish) fun _ _ z => False.elim z
end
section
variable {X : Cx} {st : Stmt} {rest : List Stmt} {t u : TS} {e : Expr} {te : TE} {pos : Pos}
def tNext : TS := fun D σ H => D.nx σ H
def tSeq (t u : TS) : TS := fun D σ H => t { D with nx := u D } σ H
theorem pss_nil : PSs X [] tNext := fun _ _ σ H _ I h => wpAny_execs_nil ⟨σ, H, I, h⟩
theorem pss_cons (h1 : PS X st t) (h2 : PSs X rest u) : PSs X (st :: rest) (tSeq t u) := by
  intro pins s σ H D I h
  refine wpAny_execs_cons (thn (h1 pins s σ H { D with nx := u D } I h) fun f s1 q => ?_)
  cases f with
  | next =>
    obtain ⟨σ', H', I', q⟩ := q
    exact h2 pins s1 σ' H' D I' q
  | ret v => exact q
  | brk => exact q
  | cont => exact q
theorem pss_one (h1 : PS X st t) : PSs X [st] t := by
  intro pins s σ H D I h
  refine wpAny_execs_cons (thn (h1 pins s σ H D I h) fun f s1 q => ?_)
  cases f with
  | next => exact wpAny_execs_nil q
  | ret v => exact q
  | brk => exact q
  | cont => exact q
def tRet (te : TE) : TS := fun D σ H => te σ H D.rt
theorem ps_ret (he : PE X e te) : PS X (.Return (some e) pos) (tRet te) := by
  intro pins s σ H D I h
  exact wpAny_Return_some (thn (he pins s σ H _ I h) fun v s1 ⟨x, H1, I1, r1, q1⟩ => ⟨x, σ, H1, I1, r1, q1⟩)
def tIfS (c : TT) (t u : TS) : TS := fun D σ H => c σ H fun b H1 => if b = true then t D σ H1 else u D σ H1
theorem ps_if {c : Expr} {a b : List Stmt} {tc : TT} (hc : PT X c tc) (ha : PSs X a t) (hb : PSs X b u) : PS X (.If c a b pos) (tIfS tc t u) := by
  intro pins s σ H D I h
  refine wpAny_If (thn (hc pins s σ H _ I h) fun d s1 ⟨H1, I1, q1⟩ => ?_)
  cases d with
  | true => exact ha pins s1 σ H1 D I1 q1
  | false => exact hb pins s1 σ H1 D I1 q1
end
abbrev TG := V → St → Hp → (St → Hp → Prop) → Prop
abbrev TGs := List V → St → Hp → (St → Hp → Prop) → Prop
def PG (X : Cx) (target : Expr) (t : TG) : Prop :=
  ∀ (pins : List (Addr × Obj)) (s : Shared) (σ : St) (H : Hp) (v : V) (u : Value) (Q : St → Hp → Prop), Inv X pins σ H s → RelV v u → t v σ H Q →
    wpAny (model X.prog X.w) X.A (assign target X.env u) (fun _ s' => ∃ σ' H', Inv X pins σ' H' s' ∧ Q σ' H') X.xe s
def PGs (X : Cx) (ts : List Expr) (t : TGs) : Prop :=
  ∀ (pins : List (Addr × Obj)) (s : Shared) (σ : St) (H : Hp) (vs : List V) (us : List Value) (Q : St → Hp → Prop), Inv X pins σ H s → Vals vs us → t vs σ H Q →
    wpAny (model X.prog X.w) X.A (assignInOrder ((assignEach ts X.env).map (·.2)) us) (fun _ s' => ∃ σ' H', Inv X pins σ' H' s' ∧ Q σ' H') X.xe s
abbrev TSet := V → V → V → Hp → (Hp → Prop) → Prop
def PSet (X : Cx) (t : TSet) : Prop :=
  ∀ (pins : List (Addr × Obj)) (s : Shared) (σ : St) (H : Hp) (o i v : V) (ov iv u : Value) (Q : Hp → Prop), Inv X pins σ H s → RelV o ov → RelV i iv → RelV v u → t o i v H Q →
    wpAny (model X.prog X.w) X.A (setItem ov iv u) (fun _ s' => ∃ H', Inv X pins σ H' s' ∧ Q H') X.xe s
section
variable {X : Cx} {pos : Pos}
def gName (i : Nat) : TG := fun v σ H Q => Q (σ.set i (some v)) H
theorem pg_name {i : Nat} {x : Str} (hN : X.N.Nodup) (hi : X.N[i]? = some x) (hx : Loc X.env.scope x) (hf : X.fn x = true ∨ X.env.scope.names.lookup x = some .local := by first | exact .inl rfl | exact .inr rfl | assumption) : PG X (.Name x pos) (gName i) := by
  intro pins s σ H v u Q I r h
  exact wpAny_assign_Name (store_ok I hN hi hx r (fun s' I' => ⟨_, H, I', h⟩) hf)
def gNil : TGs := fun vs σ H Q => vs = [] ∧ Q σ H
def gCons (t : TG) (u : TGs) : TGs := fun vs σ H Q => ∃ v r, vs = v :: r ∧ t v σ H fun σ' H' => u r σ' H' Q
theorem pgs_nil : PGs X [] gNil := by
  intro pins s σ H vs us Q I r h
  obtain ⟨e, h⟩ := h
  subst e
  cases r
  exact assignInOrder_nil ⟨σ, H, I, h⟩
theorem pgs_cons {e : Expr} {es : List Expr} {t : TG} {u : TGs} (h1 : PG X e t) (h2 : PGs X es u)
    (hs : (assignEach (e :: es) X.env).map (·.2) = assign e X.env :: (assignEach es X.env).map (·.2) := by rfl) : PGs X (e :: es) (gCons t u) := by
  intro pins s σ H vs us Q I r h
  obtain ⟨v, vr, e1, h⟩ := h
  subst e1
  cases r with
  | cons r rr =>
    rw [hs]
    refine assignInOrder_cons (thn (h1 pins s σ H _ _ _ I r h) fun _ s1 ⟨σ1, H1, I1, q1⟩ => ?_)
    exact h2 pins s1 σ1 H1 _ _ Q I1 rr q1
def gTup (K : PySem.W.Frag) (n : Nat) (t : TGs) : TG := fun v σ H Q => ∃ a xs, v = .ref a ∧ SqT K H a xs ∧ xs.length = n ∧ t xs σ H Q
theorem pg_tup {es : List Expr} {k : Nat} {t : TGs} {n : Nat} (hc : X.calm = true) (h : PGs X es t)
    (hn : (assignEach es X.env).length = n := by rfl) (hst : (assignEach es X.env).findIdx? (·.1) = none := by rfl) : PG X (.Tuple es k pos) (gTup X.K n t) := by
  intro pins s σ H v u Q I r hw
  obtain ⟨a, xs, e1, hq, hl, hw⟩ := hw
  subst e1
  cases r
  obtain ⟨its, rv, ht, hz⟩ := I.tuple hq
  refine assign_Tuple_tuple (I.ok.hd hc) ht (by simp [hn, ← hl, rv.length]) hst fun h' hx => ?_
  have I1 : Inv X pins σ H { s with heap := h' } := I.kept (t' := s.toks) fun b o e => hx b o (Nat.ne_of_lt (Heap.lt_size e)) e
  exact h pins _ σ H xs _ Q I1 (by simpa using rv) hw
def gSub (to ti : TE) (t : TSet) : TG := fun v σ H Q => to σ H fun o H1 => ti σ H1 fun i H2 => t o i v H2 fun H3 => Q σ H3
theorem pg_sub {o i : Expr} {to ti : TE} {t : TSet} (ho : PE X o to) (hi : PE X i ti) (hs : PSet X t)
    (ha : ∀ v, assign (.Subscript o i pos) X.env v = (do
      let ov ← holding [v] (eval o X.env)
      let iv ← holding [v, ov] (eval i X.env)
      standAt pos
      holding [v, ov, iv] (setItem ov iv v)
      release [v, ov, iv] []) := by intro _; rfl) : PG X (.Subscript o i pos) (gSub to ti t) := by
  intro pins s σ H v u Q I r h
  rw [ha]
  refine wpAny_bind (wpAny_holding (thn (ho pins s σ H _ I h) fun ov s1 ⟨x, H1, I1, r1, q1⟩ => ?_))
  refine wpAny_bind (wpAny_holding (thn (hi pins s1 σ H1 _ I1 q1) fun iv s2 ⟨y, H2, I2, r2, q2⟩ => ?_))
  refine wpAny_bind (wpAny_standAt (wpAny_bind (wpAny_holding (thn (hs pins s2 σ H2 x y v ov iv u _ I2 r1 r2 r q2) fun _ s3 ⟨H3, I3, q3⟩ => ?_))))
  exact wpAny_release ⟨σ, H3, I3, q3⟩
def tAsg (te : TE) (g : TG) : TS := fun D σ H => te σ H fun x H1 => g x σ H1 D.nx
theorem ps_asg {tg e : Expr} {te : TE} {g : TG} (he : PE X e te) (hg : PG X tg g) (hs : swapsWithSole [tg] e pos.line X.env = pure false := by rfl) (hw : swappedStores [tg] e X.env = pure none := by rfl)
    (h1 : (assignEach [tg] X.env).map (·.2) = [assign tg X.env] := by rfl) : PS X (.Assign [tg] e pos) (tAsg te g) := by
  intro pins s σ H D I h
  refine wpAny_Assign_stores (thn (he pins s σ H _ I h) fun v s1 ⟨x, H1, I1, r1, q1⟩ => ?_) hs hw
  rw [h1]
  exact thn (hg pins s1 σ H1 x v _ I1 r1 q1) fun _ s2 q => q
theorem ps_set {i : Nat} {x : Str} {e : Expr} {te : TE} {pos' : Pos} (hN : X.N.Nodup) (hi : X.N[i]? = some x) (hx : Loc X.env.scope x) (he : PE X e te) (hs : swapsWith e (some (.Name x pos')) pos.line X.env = pure false := by rfl) (hf : X.fn x = true ∨ X.env.scope.names.lookup x = some .local := by first | exact .inl rfl | exact .inr rfl | assumption) :
    PS X (.Assign [.Name x pos'] e pos) (tAsg te (gName i)) := by
  intro pins s σ H D I h
  refine wpAny_Assign_Name (thn (he pins s σ H _ I h) fun v s1 ⟨y, H1, I1, r1, q1⟩ => ?_) hs
  exact store_ok I1 hN hi hx r1 (fun s2 I2 => ⟨_, H1, I2, q1⟩) hf
def tPar (i j : Nat) (ta : TA) : TS := fun D σ H => ta σ H fun vs H1 => ∃ v w, vs = [v, w] ∧ D.nx ((σ.set i (some v)).set j (some w)) H1
theorem ps_par {i j : Nat} {x y : Str} {a b : Expr} {ta : TA} {px py pt : Pos} {kt k2 pt2} (hc : X.calm = true) (hN : X.N.Nodup) (hi : X.N[i]? = some x) (hj : X.N[j]? = some y) (hij : i ≠ j)
    (hx : X.env.scope.names.lookup x = some .local) (hy : X.env.scope.names.lookup y = some .local) (ha : PA X [a, b] ta)
    (hw : swappedStores [.Tuple [.Name x px, .Name y py] kt pt] (.Tuple [a, b] k2 pt2) X.env = pure (some [x, y]))
    (hs : swapsWithSole [.Tuple [.Name x px, .Name y py] kt pt] (.Tuple [a, b] k2 pt2) pos.line X.env = pure false := by rfl) :
    PS X (.Assign [.Tuple [.Name x px, .Name y py] kt pt] (.Tuple [a, b] k2 pt2) pos) (tPar i j ta) := by
  intro pins s σ H D I h
  rw [exec_Assign_arm]
  refine wpAny_bind (wpAny_standAt ?_)
  rw [hs]
  refine wpAny_bind (wpAny_pure ?_)
  rw [if_neg (by decide)]
  refine wpAny_bind (Tuple_ (thn (ha _ pins s σ H _ I h) fun us s1 ⟨vs, H1, I1, r1, q1⟩ => ?_))
  obtain ⟨v, w, e1, q1⟩ := q1
  subst e1
  obtain ⟨u1, u2, rfl, rv, rw'⟩ : ∃ u1 u2, us = [u1, u2] ∧ RelV v u1 ∧ RelV w u2 := by
    cases r1 with
    | cons p q =>
      cases q with
      | cons p' q' =>
        cases q'
        exact ⟨_, _, rfl, p, p'⟩
  refine wpAny_newObj_type ?_ (by show 2 ≤ sizeLine; decide)
  have I2 : Inv X pins σ H1 { s1 with heap := s1.heap.push { cls := .type "tuple", data := .seq [u1, u2].toArray } } := I1.kept (t' := s1.toks) fun b o e => Heap.get?_push_of_some _ e
  rw [hw]
  refine wpAny_bind (wpAny_pure ?_)
  show wpAny (model X.prog X.w) X.A (do rule "assign.swapped-stores"; let items ← unpackItems (.ref s1.heap.objs.size) 2 none; assignInOrder [fun v => bindName X.env y v, fun v => bindName X.env x v] items.reverse; pure Flow.next) _ _ _
  refine wpAny_bind (wpAny_rule (wpAny_bind (unpackItems_tuple (items := #[u1, u2]) (I.ok.hd hc) (IsTup.new s1.heap _) fun h' hx' => ?_)))
  have I3 := I2.kept (h' := h') (t' := s1.toks) fun b o e => hx' b o (Nat.ne_of_lt (Heap.lt_size e)) e
  show wpAny _ _ (assignInOrder [fun v => bindName X.env y v, fun v => bindName X.env x v] [u2, u1] >>= fun _ => pure Flow.next) _ _ _
  refine wpAny_bind (assignInOrder_cons (wpAny_bindName (store_ok I3 hN hj (.inl hy) rw' (fun s2 I4 => ?_) (.inr hy))))
  refine assignInOrder_cons (wpAny_bindName (store_ok I4 hN hi (.inl hx) rv (fun s3 I5 => assignInOrder_nil (wpAny_pure ?_)) (.inr hx)))
  rw [List.set_comm _ _ (Ne.symm hij)] at I5
  exact ⟨_, H1, I5, q1⟩
end
section
variable {X : Cx} {pos : Pos}
def tWhile (c : TT) (tb : TS) : TS := fun D σ H => ∃ W : Nat → St → Hp → Prop, (∃ m, W m σ H) ∧ ∀ m σ H, W m σ H →
  c σ H fun b H1 => if b = true then ∃ N : St → Hp → Prop, (∀ σ' H', N σ' H' → ∃ m', m' < m ∧ W m' σ' H') ∧ tb { D with nx := N, ct := N, bk := D.nx } σ H1 else D.nx σ H1
theorem ps_while {c : Expr} {body : List Stmt} {tc : TT} {tb : TS} (hp : PassesOwn (model X.prog X.w) X.A X.env X.xe) (hc : PT X c tc) (hb : PSs X body tb) : PS X (.While c body [] pos) (tWhile tc tb) := by
  intro pins s σ H D I h
  obtain ⟨W, ⟨m0, w0⟩, turn⟩ := h
  refine wpAny_While (codeAny_whileLoop (fun n s' => ∃ σ' H', Inv X pins σ' H' s' ∧ W n σ' H') ?_ m0 ⟨σ, H, I, w0⟩)
  rintro n s1 ⟨σ1, H1, I1, w1⟩
  refine wpAny_passesOwn hp (thn (hc pins s1 σ1 H1 _ I1 (turn n σ1 H1 w1)) fun b s2 ⟨H2, I2, q2⟩ => ?_)
  cases b with
  | true =>
    obtain ⟨N, hN, q2⟩ := q2
    rw [if_pos rfl]
    refine wpAny_passesOwn hp (thn (hb pins s2 σ1 H2 _ I2 q2) fun f s3 q3 => ?_)
    cases f with
    | next =>
      obtain ⟨σ3, H3, I3, n3⟩ := q3
      obtain ⟨m', hm, w3⟩ := hN σ3 H3 n3
      exact ⟨m', hm, σ3, H3, I3, w3⟩
    | cont =>
      obtain ⟨σ3, H3, I3, n3⟩ := q3
      obtain ⟨m', hm, w3⟩ := hN σ3 H3 n3
      exact ⟨m', hm, σ3, H3, I3, w3⟩
    | brk => exact q3
    | ret v => exact q3
  | false =>
    rw [if_neg Bool.false_ne_true]
    exact wpAny_execs_nil ⟨σ1, H2, I2, q2⟩
end
structure It where
  go : Nat → Hp → Prop
  yld : Nat → Hp → V → Hp → Prop
  stop : Nat → Hp → Prop
def FpOk (X : Cx) (pins : List (Addr × Obj)) (H : Hp) (b : Addr) : Prop :=
  H b = none ∧ b ≠ X.env.locals ∧ b ∉ X.fs ∧ (b ∈ X.ex ∨ X.s₀.heap.objs.size ≤ b) ∧ (∀ x c, X.env.cells.lookup x = some c → c ≠ b) ∧ ∀ p ∈ X.pn ++ pins, p.1 ≠ b
theorem Inv.fpOk {X : Cx} {pins : List (Addr × Obj)} {σ : St} {H H' : Hp} {s : Shared} {b : Addr} (I : Inv X pins σ H s) (hb : s.heap.objs.size ≤ b) (hn : H' b = none) : FpOk X pins H' b := by
  refine ⟨hn, Nat.ne_of_gt (Nat.lt_of_lt_of_le I.lt hb), I.nofs hb, .inr (Nat.le_trans I.sz hb), fun x c e z => ?_, fun p hp z => ?_⟩
  · obtain ⟨v, q⟩ := I.cell x c e
    exact absurd (Nat.lt_of_lt_of_le q.lt (by rw [z]; exact hb)) (Nat.lt_irrefl _)
  · exact absurd (Nat.lt_of_lt_of_le (Heap.lt_size (I.pin p hp).1) (by rw [z]; exact hb)) (Nat.lt_irrefl _)
structure Turn (P : Program) (w : World) (K : PySem.W.Frag) (tg : Expr) (J : It) (fp : List Addr) (it : Addr) (tn : Nat → Heap → Prop) : Prop where
  mem : it ∈ fp
  obj : ∀ i h, tn i h → ∀ b ∈ fp, ∃ o, h.get? b = some o ∧ ∀ v, o.data ≠ .cell v
  keep : ∀ i h h', tn i h → (∀ b ∈ fp, ∀ o, h.get? b = some o → h'.get? b = some o) → tn i h'
  item : ∀ (X : Cx), X.prog = P → X.w = w → X.K = K → X.calm = true → ∀ (i : Nat) (pins : List (Addr × Obj)) (s : Shared) (σ : St) (H : Hp) (E : Value → Shared → Prop), Inv X pins σ H s → (∀ b ∈ fp, FpOk X pins H b) → tn i s.heap → J.go i H →
    wpAny (model P w) X.A (pyNext (.ref it)) (fun r s1 => ∃ u, r = some u ∧
      wpAny (model P w) X.A (letOwnedTupleGo tg (.ref it) u) (fun _ s2 => ∃ x H', Inv X pins σ H' s2 ∧ RelV x u ∧ J.yld i H x H' ∧ tn (i + 1) s2.heap ∧ ∀ b ∈ fp, H' b = none) E s1) E s
  done : ∀ (X : Cx), X.prog = P → X.w = w → X.K = K → X.calm = true → ∀ (i : Nat) (pins : List (Addr × Obj)) (s : Shared) (σ : St) (H : Hp) (E : Value → Shared → Prop), Inv X pins σ H s → (∀ b ∈ fp, FpOk X pins H b) → tn i s.heap → J.stop i H →
    wpAny (model P w) X.A (pyNext (.ref it)) (fun r s1 => r = none ∧ Inv X pins σ H s1) E s
  self : ∀ (A : Around) (i : Nat) (s : Shared) (Q : Value → Shared → Prop) (E : Value → Shared → Prop), tn i s.heap → Q (.ref it) s → wpAny (model P w) A (pyIter (.ref it)) Q E s
abbrev TI := St → Hp → (It → Hp → Prop) → Prop
def PIE (X : Cx) (pins : List (Addr × Obj)) (σ : St) (tg : Expr) (R : It → Hp → Prop) (itv : Value) (s2 : Shared) : Prop :=
  ∃ (it : Addr) (fp : List Addr) (tn : Nat → Heap → Prop) (J : It) (H' : Hp), itv = .ref it ∧ Inv X pins σ H' s2 ∧ Turn X.prog X.w X.K tg J fp it tn ∧ tn 0 s2.heap ∧ (∀ b ∈ fp, FpOk X pins H' b) ∧ R J H'
def PI (X : Cx) (tg iter : Expr) (wi : TI) : Prop :=
  ∀ (pins : List (Addr × Obj)) (s : Shared) (σ : St) (H : Hp) (R : It → Hp → Prop), Inv X pins σ H s → wi σ H R →
    wpAny (model X.prog X.w) X.A (eval iter X.env) (fun v s1 => wpAny (model X.prog X.w) X.A (pyIter v) (PIE X pins σ tg R) X.xe s1) X.xe s

theorem go_of {M : Model} {A : Around} {E : Value → Shared → Prop} {s : Shared} {tg : Expr} {it : Addr} {u : Value} {o : Obj} {n : String} {vs : Array Value} {Q : Unit → Shared → Prop} (ho : s.heap.get? it = some o) (hc : o.cls = .type n) (hd : o.data = .fields vs)
    (hn : ["enumerate", "zip", "dict_itemiterator", "dict_reverseitemiterator", "odict_iterator", "itertools.zip_longest", "itertools.pairwise"].contains n = false) (hQ : Q () s) : wpAny M A (letOwnedTupleGo tg (.ref it) u) Q E s := by
  unfold letOwnedTupleGo
  cases tg <;> first
    | exact wpAny_pure hQ
    | (cases u <;> first
        | exact wpAny_pure hQ
        | (refine wpAny_bind (wpAny_load ho ?_)
           rw [hc, hd]
           show wpAny M A (if (["enumerate", "zip", "dict_itemiterator", "dict_reverseitemiterator", "odict_iterator", "itertools.zip_longest", "itertools.pairwise"].contains n && vs[0]? == some (rawInt _)) = true then _ else _) Q E s
           rw [if_neg (by intro h; rw [hn, Bool.false_and] at h; cases h)]
           exact wpAny_pure hQ))

def Itl (K : PySem.W.Frag) (a : Addr) : It :=
  ⟨fun i H => ∃ xs x, SqL K H a xs ∧ xs[i]? = some x, fun i H x H' => H' = H ∧ ∀ xs, SqL K H a xs → xs[i]? = some x, fun i H => ∃ xs, SqL K H a xs ∧ xs.length ≤ i⟩
def Itr (lo : Int) (n : Nat) : It := ⟨fun i _ => i < n, fun i H x H' => H' = H ∧ x = .int (lo + i), fun i _ => n ≤ i⟩
theorem turn_list {P : Program} {w : World} {K : PySem.W.Frag} {tg : Expr} (a it : Addr) : Turn P w K tg (Itl K a) [it] it (fun i h => h.IsListIter it a i) where
  mem := by simp
  obj := fun i h st b hb => by
    have e : b = it := by simpa using hb
    subst e
    obtain ⟨o, e, c, d⟩ := st
    exact ⟨o, e, fun v z => by rw [d] at z; cases z⟩
  keep := fun i h h' st k => st.at fun o e => k it (by simp) o e
  item := by
    intro X hP hw hK hc i pins s σ H E I hf st hg
    subst hP hw hK
    obtain ⟨xs, x, hq, hx⟩ := hg
    obtain ⟨its, rv, p, hz⟩ := I.list hq
    obtain ⟨u, hu, ru⟩ := rv.get hx
    obtain ⟨f0, f1, f2, f3, f4, f5⟩ := hf it (by simp)
    refine wpAny_pyNext_list_item st p.isList (x := u) (by simpa using hu) fun h' st' sb => ?_
    have I1 : Inv X pins σ H { s with heap := h' } := I.turned (t' := s.toks) (fun b o hb e => (sb.2 b hb).trans e) f0 f1 f3 f4 f5
    obtain ⟨o, e, c, d⟩ := id st'
    exact ⟨u, rfl, go_of (s := { s with heap := h' }) e c d (by decide) ⟨x, H, I1, ru, ⟨rfl, fun ys hy => by rw [I.list_inj hy hq]; exact hx⟩, st', fun b hb => (hf b hb).1⟩⟩
  done := by
    intro X hP hw hK hc i pins s σ H E I hf st hg
    subst hP hw hK
    obtain ⟨xs, hq, hx⟩ := hg
    obtain ⟨its, rv, p, hz⟩ := I.list hq
    obtain ⟨f0, f1, f2, f3, f4, f5⟩ := hf it (by simp)
    have hl := rv.length
    exact wpAny_pyNext_list_end (I.ok.hd hc) st p.isList (by simp; omega) fun h' eb => ⟨rfl, I.turned (t' := s.toks) (fun b o hb e => eb b o hb e) f0 f1 f3 f4 f5⟩
  self := fun _ _ _ _ _ st h => wpAny_pyIter_listiter st h
theorem turn_range {P : Program} {w : World} {K : PySem.W.Frag} {tg : Expr} (it : Addr) (lo : Int) (n : Nat) : Turn P w K tg (Itr lo n) [it] it (fun i h => IsRangeIter h it (lo + (i : Nat) * 1) ((n : Int) - (i : Nat)) 1) where
  mem := by simp
  obj := fun i h st b hb => by
    have e : b = it := by simpa using hb
    subst e
    exact ⟨_, st, fun v z => by
      have z' : Data.fields _ = Data.cell v := z
      cases z'⟩
  keep := fun i h h' st k => k it (by simp) _ st
  item := by
    intro X hP hw hK hc i pins s σ H E I hf st hg
    subst hP hw hK
    obtain ⟨f0, f1, f2, f3, f4, f5⟩ := hf it (by simp)
    have W := Walks.range (prog := X.prog) (w := X.w) (I.ok.hd hc) it lo 1 n
    refine W.item i s _ _ hg st fun v h' tk hv st' kk => ?_
    obtain ⟨t, rfl⟩ := hv
    have I1 : Inv X pins σ H { s with heap := h', toks := tk } := I.turned (fun b o hb e => kk b o (by simpa using hb) e) f0 f1 f3 f4 f5
    refine ⟨_, rfl, go_of (s := { s with heap := h', toks := tk }) (n := "range_iterator") st' rfl rfl (by decide) ⟨.int (lo + i), H, I1, ⟨t, ?_⟩, ⟨rfl, rfl⟩, st', fun b hb => (hf b hb).1⟩⟩
    rw [Int.mul_one]
  done := by
    intro X hP hw hK hc i pins s σ H E I hf st hg
    subst hP hw hK
    obtain ⟨f0, f1, f2, f3, f4, f5⟩ := hf it (by simp)
    exact wpAny_pyNext_range_end (I.ok.hd hc) st (by have : n ≤ i := hg; omega) fun h' eb => ⟨rfl, I.turned (t' := s.toks) (fun b o hb e => eb b o hb e) f0 f1 f3 f4 f5⟩
  self := fun _ _ _ _ _ st h => wpAny_pyIter_rangeiter st h
end L2
namespace L2
open PySem PySem.Spec PyProof.Rows
section
variable {X : Cx} {tg : Expr}
def iList (K : PySem.W.Frag) (tl : TE) : TI := fun σ H R => tl σ H fun x H1 => ∃ a, x = .ref a ∧ (∃ xs, SqL K H1 a xs) ∧ R (Itl K a) H1
theorem pi_list {l : Expr} {tl : TE} (hl : PE X l tl) : PI X tg l (iList X.K tl) := by
  intro pins s σ H R I h
  refine thn (hl pins s σ H _ I h) fun v s1 ⟨x, H1, I1, r1, q1⟩ => ?_
  obtain ⟨a, e, ⟨xs, hq⟩, q⟩ := q1
  subst e
  cases r1
  obtain ⟨its, rv, p, hz⟩ := I1.list hq
  refine wpAny_pyIter_list p.isList ?_
  refine ⟨s1.heap.objs.size, [s1.heap.objs.size], _, _, H1, rfl, I1.kept (t' := s1.toks) fun b o e => Heap.get?_push_of_some _ e, turn_list a _, ⟨_, Heap.get?_push_size _ rfl, rfl, rfl⟩, fun b hb => ?_, q⟩
  have e : b = s1.heap.objs.size := by simpa using hb
  subst e
  exact I1.fpOk (Nat.le_refl _) (I1.hok.fresh (Nat.le_refl _))
theorem range_it {pins : List (Addr × Obj)} {σ : St} {H : Hp} {s : Shared} {R : It → Hp → Prop} {E : Value → Shared → Prop} {lo hi : Int} {t u v : Tok} {tk : Nat} (I : Inv X pins σ H s) (h1 : -(2 ^ 62) ≤ lo) (h2 : lo < 2 ^ 62) (h3 : -(2 ^ 62) ≤ hi) (h4 : hi < 2 ^ 62)
    (q : R (Itr lo (hi - lo).toNat) H) : wpAny (model X.prog X.w) X.A (pyIter (.ref s.heap.objs.size)) (PIE X pins σ tg R) E { s with heap := s.heap.push { cls := .type "range", data := .fields #[.int lo t, .int hi u, .int 1 v] }, toks := tk } := by
  refine wpAny_pyIter_range (IsRange.new ..) (small_one h1 h2 h3 h4) ?_
  have I1 : Inv X pins σ H { s with heap := s.heap.push { cls := .type "range", data := .fields #[.int lo t, .int hi u, .int 1 v] }, toks := tk } := I.kept fun b o e => Heap.get?_push_of_some _ e
  refine ⟨(s.heap.push { cls := .type "range", data := .fields #[.int lo t, .int hi u, .int 1 v] }).objs.size, [(s.heap.push { cls := .type "range", data := .fields #[.int lo t, .int hi u, .int 1 v] }).objs.size], _, _, H, rfl,
    I1.kept (t' := tk) fun b o e => Heap.get?_push_of_some _ e, turn_range _ lo (hi - lo).toNat, ?_, fun b hb => ?_, q⟩
  · have e1 : lo + ((0 : Nat) : Int) * 1 = lo := by simp
    have e2 : (((hi - lo).toNat : Nat) : Int) - ((0 : Nat) : Int) = Builtin.Range.rangeSize lo hi 1 := by rw [rangeSize_one]; split <;> omega
    show IsRangeIter _ _ (lo + ((0 : Nat) : Int) * 1) ((((hi - lo).toNat : Nat) : Int) - ((0 : Nat) : Int)) 1
    rw [e1, e2]
    exact Heap.get?_push_size _ rfl
  · have e : b = (s.heap.push { cls := .type "range", data := .fields #[.int lo t, .int hi u, .int 1 v] }).objs.size := by simpa using hb
    subst e
    exact I1.fpOk (Nat.le_refl _) (I1.hok.fresh (Nat.le_refl _))
def iRng1 (ta : TA) : TI := fun σ H R => ta σ H fun vs H1 => ∃ j : Int, vs = [.int j] ∧ -(2 ^ 62) ≤ j ∧ j < 2 ^ 62 ∧ R (Itr 0 j.toNat) H1
theorem pi_range1 {a : Expr} {ta : TA} {p pos : Pos} (hg : Gl X "range") (hm : X.mg "range" = none) (ha : PA X [a] ta) (hs : starEach [a] X.env = [(false, eval a X.env)] := by rfl) : PI X tg (.Call (.Name "range" p) [a] [] pos) (iRng1 ta) := by
  intro pins s σ H R I h
  refine Call_ (ld_blt I hg hm boot_range (PyProof.Rows.callWith_type1 (thn (ha pos pins s σ H _ I h) fun us s1 ⟨vs, H1, I1, r1, q1⟩ => ?_) hs rfl))
  obtain ⟨j, e, q1, q2, q⟩ := q1
  subst e
  cases r1 with
  | cons r rr =>
    cases rr
    obtain ⟨t, rfl⟩ := r
    exact call_range_1 (range_it I1 (by omega) (by omega) q1 q2 (by simpa using q))
def tFor (wi : TI) (g : TG) (tb : TS) : TS := fun D σ H => wi σ H fun J H1 => ∃ W : Nat → Nat → St → Hp → Prop, (∃ m, W 0 m σ H1) ∧ ∀ i m σ H, W i m σ H →
  (J.stop i H ∧ D.nx σ H) ∨ (J.go i H ∧ ∃ N : St → Hp → Prop, (∀ σ' H', N σ' H' → ∃ m', m' < m ∧ W (i + 1) m' σ' H') ∧ ∀ x H', J.yld i H x H' → g x σ H' fun σ2 H2 => tb { D with nx := N, ct := N, bk := D.nx } σ2 H2)
def pinsAt (fp : List Addr) (h : Heap) : List (Addr × Obj) := fp.filterMap fun b => (h.get? b).map fun o => (b, o)
theorem mem_pinsAt {fp : List Addr} {h : Heap} {b : Addr} {o : Obj} (hb : b ∈ fp) (e : h.get? b = some o) : (b, o) ∈ pinsAt fp h := List.mem_filterMap.mpr ⟨b, hb, by rw [e]; rfl⟩
theorem of_pinsAt {fp : List Addr} {h : Heap} {p : Addr × Obj} (hp : p ∈ pinsAt fp h) : p.1 ∈ fp ∧ h.get? p.1 = some p.2 := by
  obtain ⟨b, hb, e⟩ := List.mem_filterMap.mp hp
  cases q : h.get? b with
  | none => rw [q] at e; cases e
  | some o =>
    rw [q] at e
    have e' : (b, o) = p := Option.some.inj e
    subst e'
    exact ⟨hb, q⟩
theorem Inv.pinned {pins : List (Addr × Obj)} {σ : St} {H : Hp} {s : Shared} {fp : List Addr} (I : Inv X pins σ H s) (hf : ∀ b ∈ fp, FpOk X pins H b) (ho : ∀ b ∈ fp, ∃ o, s.heap.get? b = some o ∧ ∀ v, o.data ≠ .cell v) : Inv X (pins ++ pinsAt fp s.heap) σ H s :=
  I.pins_of fun p hp => (List.mem_append.mp hp).elim (fun z => I.pin p (List.mem_append_right _ z)) fun z => by
    obtain ⟨hb, e⟩ := of_pinsAt z
    obtain ⟨f0, f1, f2, _⟩ := hf p.1 hb
    obtain ⟨o, e', d⟩ := ho p.1 hb
    rw [e] at e'; cases e'
    exact ⟨e, f0, f1, f2, d⟩
theorem Inv.unpinned {pins pl : List (Addr × Obj)} {σ : St} {H : Hp} {s : Shared} (I : Inv X (pins ++ pl) σ H s) : Inv X pins σ H s := I.pins_of fun p hp => I.pin p (List.mem_append_right _ (List.mem_append_left _ hp))
theorem ps_for {iter : Expr} {body : List Stmt} {wi : TI} {g : TG} {tb : TS} {pos : Pos} (hp : PassesOwn (model X.prog X.w) X.A X.env X.xe) (hc : X.calm = true) (hi : PI X tg iter wi) (hg : PG X tg g) (hb : PSs X body tb)
    (hs : ∀ x, foldedSetIterable iter X.env x = pure x := by intro _; rfl) : PS X (.For tg iter body [] pos) (tFor wi g tb) := by
  intro pins s σ H D I h
  refine wpAny_For (thn (hi pins s σ H _ I h) fun v s1 h1 => thn h1 fun itv s2 h2 => ?_) hs
  obtain ⟨it, fp, tn, J, H2, e, I2, T, st2, f2, W, ⟨m0, w0⟩, turn⟩ := h2
  subst e
  -- what stays true of the iterator's objects through the loop
  have stat : ∀ {H' : Hp}, (∀ b ∈ fp, H' b = none) → ∀ b ∈ fp, FpOk X pins H' b := fun hn b hb => ⟨hn b hb, (f2 b hb).2⟩
  refine codeAny_forLoop_any (fun n s' => ∃ i σ' H', Inv X pins σ' H' s' ∧ tn i s'.heap ∧ (∀ b ∈ fp, H' b = none) ∧ W i n σ' H') ?_ m0 ⟨0, σ, H2, I2, st2, fun b hb => (f2 b hb).1, w0⟩
  rintro n s3 ⟨i, σ3, H3, I3, st3, fr3, w3⟩
  rcases turn i n σ3 H3 w3 with ⟨stop, qn⟩ | ⟨go, N, hN, step⟩
  · refine wpAny_passesOwn hp (thn (T.done X rfl rfl rfl hc i pins s3 σ3 H3 X.xe I3 (stat fr3) st3 stop) fun r s4 ⟨hr, I4⟩ => ?_)
    subst hr
    exact wpAny_execs_nil ⟨σ3, H3, I4, qn⟩
  · refine wpAny_passesOwn hp (thn (T.item X rfl rfl rfl hc i pins s3 σ3 H3 X.xe I3 (stat fr3) st3 go) fun r s4 ⟨u, hr, h4⟩ => ?_)
    subst hr
    refine wpAny_passesOwn hp (thn h4 fun _ s5 ⟨x, H5, I5, r5, y5, st5, fr5⟩ => ?_)
    have I5' := I5.pinned (stat fr5) (T.obj _ _ st5)
    refine wpAny_passesOwn hp (thn (hg _ s5 σ3 H5 x u _ I5' r5 (step x H5 y5)) fun _ s6 ⟨σ6, H6, I6, q6⟩ => ?_)
    refine wpAny_passesOwn hp (thn (hb _ s6 σ6 H6 _ I6 q6) fun f s7 q7 => ?_)
    have again : ∀ {σ7 : St} {H7 : Hp}, Inv X (pins ++ pinsAt fp s5.heap) σ7 H7 s7 → N σ7 H7 → ∃ m, m < n ∧ ∃ i σ' H', Inv X pins σ' H' s7 ∧ tn i s7.heap ∧ (∀ b ∈ fp, H' b = none) ∧ W i m σ' H' := fun {σ7 H7} I7 n7 => by
      obtain ⟨m', hm, w7⟩ := hN σ7 H7 n7
      refine ⟨m', hm, i + 1, σ7, H7, I7.unpinned, T.keep _ _ _ st5 fun b hb o e => (I7.pin (b, o) (List.mem_append_right _ (List.mem_append_right _ (mem_pinsAt hb e)))).1, fun b hb => ?_, w7⟩
      obtain ⟨o, e, d⟩ := T.obj _ _ st5 b hb
      exact (I7.pin (b, o) (List.mem_append_right _ (List.mem_append_right _ (mem_pinsAt hb e)))).2.1
    cases f with
    | next => obtain ⟨σ7, H7, I7, n7⟩ := q7; exact again I7 n7
    | cont => obtain ⟨σ7, H7, I7, n7⟩ := q7; exact again I7 n7
    | brk => obtain ⟨σ7, H7, I7, q7⟩ := q7; exact ⟨σ7, H7, I7.unpinned, q7⟩
    | ret v => obtain ⟨x7, σ7, H7, I7, r7, q7⟩ := q7; exact ⟨x7, σ7, H7, I7.unpinned, r7, q7⟩
end
end L2
namespace L2
open PySem PySem.Spec PyProof.Rows
abbrev R2 := V → V → Hp → VK → Prop
def OpR (X : Cx) (f : Value → Value → Sem Value) (r : R2) : Prop :=
  ∀ (pins : List (Addr × Obj)) (s : Shared) (σ : St) (H : Hp) (x y : V) (v u : Value) (Q : VK), Inv X pins σ H s → RelV x v → RelV y u → r x y H Q →
    wpAny (model X.prog X.w) X.A (f v u) (EP X pins σ Q) X.xe s
def CallR (X : Cx) (f : Value) (r : List V → Hp → VK → Prop) : Prop :=
  ∀ (pins : List (Addr × Obj)) (s : Shared) (σ : St) (H : Hp) (xs : List V) (us : List Value) (Q : VK), Inv X pins σ H s → Vals xs us → r xs H Q →
    wpAny (model X.prog X.w) X.A (call f us) (EP X pins σ Q) X.xe s
def TruR (X : Cx) (r : V → Hp → (Bool → Hp → Prop) → Prop) : Prop :=
  ∀ (pins : List (Addr × Obj)) (s : Shared) (σ : St) (H : Hp) (x : V) (v : Value) (Q : Bool → Hp → Prop), Inv X pins σ H s → RelV x v → r x H Q →
    wpAny (model X.prog X.w) X.A (truthy v) (TP X pins σ Q) X.xe s

def tOp (r : R2) (ta tb : TE) : TE := fun σ H Q => ta σ H fun x H1 => tb σ H1 fun y H2 => r x y H2 Q
def rI (C : Int → Int → Prop) (g : Int → Int → V) : R2 := fun x y H Q => ∃ i j, x = .int i ∧ y = .int j ∧ C i j ∧ Q (g i j) H
def rI0 (g : Int → Int → V) : R2 := fun x y H Q => ∃ i j, x = .int i ∧ y = .int j ∧ Q (g i j) H
section
variable {X : Cx} {a b c : Expr} {ta tb tc : TE} {pos : Pos}
theorem binT (ha : PE X a ta) (hb : PE X b tb) {pins : List (Addr × Obj)} {s : Shared} {σ : St} {H : Hp} {R : V → V → Hp → Prop} (I : Inv X pins σ H s)
    (h : ta σ H fun x H1 => tb σ H1 fun y H2 => R x y H2) {Q : Value → Shared → Prop} {f : Value → Value → Sem Value}
    (hf : ∀ v u s2 x y H2, Inv X pins σ H2 s2 → RelV x v → RelV y u → R x y H2 → wpAny (model X.prog X.w) X.A (f v u) Q X.xe s2) :
    wpAny (model X.prog X.w) X.A (eval a X.env) (fun v s₁ => wpAny (model X.prog X.w) X.A (eval b X.env) (fun u s₂ => wpAny (model X.prog X.w) X.A (f v u) Q X.xe s₂) X.xe s₁) X.xe s := by
  refine thn (ha pins s σ H _ I h) fun v s1 ⟨x, H1, I1, r1, q1⟩ => ?_
  refine thn (hb pins s1 σ H1 _ I1 q1) fun u s2 ⟨y, H2, I2, r2, q2⟩ => ?_
  exact hf v u s2 x y H2 I2 r1 r2 q2

theorem pe_op {op : Operator} {r : R2} (ho : OpR X (binaryOp op) r) (ha : PE X a ta) (hb : PE X b tb) : PE X (.BinOp a op b pos) (tOp r ta tb) := by
  intro pins s σ H Q I h
  exact wpAny_BinOp (binT ha hb I h fun v u s2 x y H2 I2 rx ry q => ho pins s2 σ H2 x y v u Q I2 rx ry q)
theorem opI {f : Value → Value → Sem Value} {C : Int → Int → Prop} {g : Int → Int → Int}
    (rule : ∀ (i j : Int) (t u : Tok) (s : Shared) (Q : Value → Shared → Prop) (E : Value → Shared → Prop), C i j → Q (.int (g i j) s.toks) { s with toks := s.toks + 1 } → wpAny (model X.prog X.w) X.A (f (.int i t) (.int j u)) Q E s) :
    OpR X f (rI C fun i j => .int (g i j)) := by
  intro pins s σ H x y v u Q I rx ry h
  obtain ⟨i, j, rfl, rfl, hc, q⟩ := h
  obtain ⟨t, rfl⟩ := rx
  obtain ⟨t', rfl⟩ := ry
  exact rule i j t t' s _ _ hc ⟨.int (g i j), H, I.tok _, ⟨_, rfl⟩, q⟩
theorem opI0 {f : Value → Value → Sem Value} {g : Int → Int → Int}
    (rule : ∀ (i j : Int) (t u : Tok) (s : Shared) (Q : Value → Shared → Prop) (E : Value → Shared → Prop), Q (.int (g i j) s.toks) { s with toks := s.toks + 1 } → wpAny (model X.prog X.w) X.A (f (.int i t) (.int j u)) Q E s) :
    OpR X f (rI0 fun i j => .int (g i j)) := by
  intro pins s σ H x y v u Q I rx ry h
  obtain ⟨i, j, rfl, rfl, q⟩ := h
  obtain ⟨t, rfl⟩ := rx
  obtain ⟨t', rfl⟩ := ry
  exact rule i j t t' s _ _ ⟨.int (g i j), H, I.tok _, ⟨_, rfl⟩, q⟩
theorem opB0 {f : Value → Value → Sem Value} {g : Int → Int → Bool}
    (rule : ∀ (i j : Int) (t u : Tok) (s : Shared) (Q : Value → Shared → Prop) (E : Value → Shared → Prop), Q (.bool (g i j)) s → wpAny (model X.prog X.w) X.A (f (.int i t) (.int j u)) Q E s) :
    OpR X f (rI0 fun i j => .bl (g i j)) := by
  intro pins s σ H x y v u Q I rx ry h
  obtain ⟨i, j, rfl, rfl, q⟩ := h
  obtain ⟨t, rfl⟩ := rx
  obtain ⟨t', rfl⟩ := ry
  exact rule i j t t' s _ _ ⟨.bl (g i j), H, I, rfl, q⟩

def CDiv (i j : Int) : Prop := 0 < j ∧ j < 1073741824
def CPow (i j : Int) : Prop := 0 ≤ j ∧ j ≤ 1000000 ∧ i.natAbs < 2 ^ 64
def CMul (i j : Int) : Prop := (-(2 ^ 64) < i ∧ i < 2 ^ 64) ∨ (-(2 ^ 64) < j ∧ j < 2 ^ 64)
theorem CMul.ok {i j : Int} (h : CMul i j) : IntMulOk i j := by
  rcases h with ⟨h1, h2⟩ | ⟨h1, h2⟩
  · exact .of_left (intBits_le_64 h1 h2)
  · exact .of_right (intBits_le_64 h1 h2)
theorem op_add : OpR X (binaryOp .Add) (rI0 fun i j => .int (i + j)) := opI0 fun _ _ _ _ _ _ _ q => add_int q
theorem op_sub : OpR X (binaryOp .Sub) (rI0 fun i j => .int (i - j)) := opI0 fun _ _ _ _ _ _ _ q => sub_int q
theorem op_mul : OpR X (binaryOp .Mult) (rI CMul fun i j => .int (i * j)) := opI fun _ _ _ _ _ _ _ hc q => mul_int q hc.ok
theorem op_fdiv : OpR X (binaryOp .FloorDiv) (rI CDiv fun i j => .int (i / j)) := opI fun i j _ _ _ _ _ hc q => by
  have h1 : (0 : Int) < j := hc.1
  have h2 : j < 1073741824 := hc.2
  exact floordiv_int (by omega) (by rw [Int.fdiv_eq_ediv_of_nonneg i (by omega)]; exact q) (.inl (PyProof.noPylong_small (by omega)))
theorem op_mod : OpR X (binaryOp .Mod) (rI (fun _ j => 0 < j) fun i j => .int (i % j)) := opI fun i j _ _ _ _ _ hc q => by
  have h1 : (0 : Int) < j := hc
  exact mod_int' (by omega) (by rw [Int.fmod_eq_emod_of_nonneg i (by omega)]; exact q)
theorem op_pow : OpR X (binaryOp .Pow) (rI CPow fun i j => .int (i ^ j.toNat)) := opI fun _ _ _ _ _ _ _ hc q => pow_int_small hc.1 hc.2.1 hc.2.2 q
end
section
variable {X : Cx} {a b c : Expr} {ta tb tc : TE} {pos : Pos}
theorem fin_bl {pins : List (Addr × Obj)} {σ : St} {H : Hp} {s : Shared} {Q : VK} {k k' : Bool} (I : Inv X pins σ H s) (q : Q (.bl k) H) (e : k = k') : EP X pins σ Q (.bool k') s := by
  subst e
  exact ⟨.bl k, H, I, rfl, q⟩
theorem op_lt : OpR X (compareOp .Lt) (rI0 fun i j => .bl (decide (i < j))) := opB0 fun _ _ _ _ _ _ _ q => lt_int q
theorem op_le : OpR X (compareOp .LtE) (rI0 fun i j => .bl (decide (i ≤ j))) := opB0 fun _ _ _ _ _ _ _ q => le_int q
theorem op_gt : OpR X (compareOp .Gt) (rI0 fun i j => .bl (decide (j < i))) := opB0 fun _ _ _ _ _ _ _ q => gt_int q
theorem op_ge : OpR X (compareOp .GtE) (rI0 fun i j => .bl (decide (j ≤ i))) := opB0 fun _ _ _ _ _ _ _ q => ge_int q
theorem op_lt_str : OpR X (compareOp .Lt) (fun x y H Q => ∃ i j, x = .str i ∧ y = .str j ∧ Q (.bl (decide (i.cps.toList < j.cps.toList))) H) := by
  intro pins s σ H x y v u Q I rx ry h
  obtain ⟨i, j, rfl, rfl, q⟩ := h
  obtain ⟨t, rfl⟩ := rx
  obtain ⟨t', rfl⟩ := ry
  exact lt_str (fin_bl I q rfl)
theorem op_in_str : OpR X (compareOp .In) (fun x y H Q => ∃ i j, x = .str i ∧ y = .str j ∧ Q (.bl (!(Builtin.Str.occurrences j i 0 j.length 1).isEmpty)) H) := by
  intro pins s σ H x y v u Q I rx ry h
  obtain ⟨i, j, rfl, rfl, q⟩ := h
  obtain ⟨t, rfl⟩ := rx
  obtain ⟨t', rfl⟩ := ry
  exact in_str (fin_bl I q rfl)

theorem op_isN : OpR X (compareOp .Is) (fun x y H Q => y = .non ∧ Q (.bl (decide (x = .non))) H) := by
  intro pins s σ H x y v u Q I rx ry h
  obtain ⟨rfl, q⟩ := h
  cases ry
  refine is_none_gen (fin_bl I q ?_)
  cases x <;> first
    | (cases rx; rfl)
    | (obtain ⟨t, rfl⟩ := rx; rfl)
theorem OpR.or {f : Value → Value → Sem Value} {r r' : R2} (h : OpR X f r) (h' : OpR X f r') : OpR X f (fun x y H Q => r x y H Q ∨ r' x y H Q) := by
  intro pins s σ H x y v u Q I rx ry q
  rcases q with q | q
  · exact h pins s σ H x y v u Q I rx ry q
  · exact h' pins s σ H x y v u Q I rx ry q

theorem pe_cmpR {op : CmpOp} {r : R2} (ho : OpR X (compareOp op) r) (ha : PE X a ta) (hb : PE X b tb) (hm : behindInMarks op b = false) : PE X (.Compare a [op] [b] pos) (tOp r ta tb) := by
  intro pins s σ H Q I h
  exact wpAny_Compare1 (binT ha hb I h fun v u s2 x y H2 I2 rx ry q => ho pins s2 σ H2 x y v u Q I2 rx ry q) hm
def tTest (t : TE) : TT := fun σ H Q => t σ H fun x H' => ∃ k, x = .bl k ∧ Q k H'
theorem pt_cmpR {op : CmpOp} {r : R2} (ho : OpR X (compareOp op) r) (ha : PE X a ta) (hb : PE X b tb) (hm : behindInMarks op b = false) : PT X (.Compare a [op] [b] pos) (tTest (tOp r ta tb)) := by
  intro pins s σ H Q I h
  refine wpAny_isTrue_Compare1 (thn (ha pins s σ H _ I h) fun v s1 ⟨x, H1, I1, r1, q1⟩ => thn (hb pins s1 σ H1 _ I1 q1) fun u s2 ⟨y, H2, I2, r2, q2⟩ =>
    thn (ho pins s2 σ H2 x y v u _ I2 r1 r2 q2) fun c s3 ⟨z, H3, I3, r3, k, e, q3⟩ => ?_) hm
  subst e
  cases r3
  exact wpAny_truthy_bool ⟨H3, I3, q3⟩
def tChain (r r' : R2) (ta tb tc : TE) : TE := fun σ H Q => ta σ H fun x H1 => tb σ H1 fun y H2 => r x y H2 fun z H3 => ∃ k, z = .bl k ∧
  (if k = true then tc σ H3 fun w' H4 => r' y w' H4 Q else Q (.bl false) H3)
theorem pe_chain {op op' : CmpOp} {r r' : R2} (ho : OpR X (compareOp op) r) (ho' : OpR X (compareOp op') r') (ha : PE X a ta) (hb : PE X b tb) (hc : PE X c tc)
    (hm : lastMarks [op, op'] [b, c] = false := by with_unfolding_all rfl) : PE X (.Compare a [op, op'] [b, c] pos) (tChain r r' ta tb tc) := by
  intro pins s σ H Q I h
  refine Compare_chain (thn (ha pins s σ H _ I h) fun v s1 ⟨x, H1, I1, r1, q1⟩ => chain_link (thn (hb pins s1 σ H1 _ I1 q1) fun u s2 ⟨y, H2, I2, r2, q2⟩ =>
    thn (ho pins s2 σ H2 x y v u _ I2 r1 r2 q2) fun d s3 ⟨z, H3, I3, r3, k, e, q3⟩ => ?_)) hm
  subst e
  cases r3
  refine wpAny_truthy_bool ?_
  cases k with
  | false => exact ite_ff ⟨.bl false, H3, I3, rfl, q3⟩
  | true => exact ite_tt (chain_last (thn (hc pins s3 σ H3 _ I3 q3) fun w' s4 ⟨z', H4, I4, r4, q4⟩ => ho' pins s4 σ H4 y z' u w' Q I4 r2 r4 q4))
theorem pt_chain {op op' : CmpOp} {r r' : R2} (ho : OpR X (compareOp op) r) (ho' : OpR X (compareOp op') r') (ha : PE X a ta) (hb : PE X b tb) (hc : PE X c tc)
    (hm : lastMarks [op, op'] [b, c] = false := by with_unfolding_all rfl) : PT X (.Compare a [op, op'] [b, c] pos) (tTest (tChain r r' ta tb tc)) := by
  intro pins s σ H Q I h
  refine isTrue_chain (thn (ha pins s σ H _ I h) fun v s1 ⟨x, H1, I1, r1, q1⟩ => test_link (thn (hb pins s1 σ H1 _ I1 q1) fun u s2 ⟨y, H2, I2, r2, q2⟩ =>
    thn (ho pins s2 σ H2 x y v u _ I2 r1 r2 q2) fun d s3 ⟨z, H3, I3, r3, k, e, q3⟩ => ?_)) hm
  subst e
  cases r3
  refine wpAny_truthy_bool ?_
  cases k with
  | false =>
    obtain ⟨k', e', q'⟩ := q3
    cases e'
    exact ite_ff ⟨H3, I3, q'⟩
  | true =>
    refine ite_tt (test_last (thn (hc pins s3 σ H3 _ I3 q3) fun w' s4 ⟨z', H4, I4, r4, q4⟩ => thn (ho' pins s4 σ H4 y z' u w' _ I4 r2 r4 q4) fun d' s5 ⟨z2, H5, I5, r5, k2, e2, q5⟩ => ?_))
    subst e2
    cases r5
    exact wpAny_truthy_bool ⟨H5, I5, q5⟩

def TruV (K : PySem.W.Frag) (x : V) (H : Hp) (k : Bool) : Prop :=
  match x with
  | .non => k = false
  | .bl b => k = b
  | .int i => k = (i != 0)
  | .str y => y.length ≤ sizeLine ∧ k = ((y.length : Int) != 0)
  | .byt y => y.size ≤ sizeLine ∧ k = ((y.size : Int) != 0)
  | .ref p => (∃ xs, SqL K H p xs ∧ k = !xs.isEmpty) ∨ (∃ xs, SqT K H p xs ∧ k = !xs.isEmpty) ∨ ∃ kvs, H p = some (.dK kvs) ∧ k = !kvs.isEmpty
  | _ => False
theorem isEmpty_kv {κ : Type} {kvs : List (κ × V)} {vs : List (κ × Value)} (r : KV kvs vs) : (!vs.isEmpty) = !kvs.isEmpty := by
  cases r <;> rfl
theorem isEmpty_of {xs : List V} {its : List Value} (r : Vals xs its) : (!its.toArray.isEmpty) = !xs.isEmpty := by
  cases r <;> simp
theorem line63 : (sizeLine : Nat) < 2 ^ 63 := by rw [sizeLine_eq]; decide
theorem tru_ok : TruR X (fun x H Q => ∃ k, TruV X.K x H k ∧ Q k H) := by
  intro pins s σ H x v Q I rx h
  obtain ⟨k, e, q⟩ := h
  have hl := line63
  have hs : sizeLine = 16777216 := sizeLine_eq
  cases x with
  | non =>
    cases rx
    have e' : k = false := e
    subst e'
    exact truthy_none ⟨H, I, q⟩
  | bl b =>
    cases rx
    have e' : k = b := e
    subst e'
    exact wpAny_truthy_bool ⟨H, I, q⟩
  | int i =>
    obtain ⟨t, rfl⟩ := rx
    have e' : k = (i != 0) := e
    subst e'
    exact PySem.P.truthy_int ⟨H, I, q⟩
  | str y =>
    obtain ⟨t, rfl⟩ := rx
    obtain ⟨hy, e'⟩ : y.length ≤ sizeLine ∧ k = ((y.length : Int) != 0) := e
    subst e'
    exact PySem.P.truthy_str (by omega) ⟨H, I.tok _, q⟩
  | byt y =>
    obtain ⟨t, rfl⟩ := rx
    obtain ⟨hy, e'⟩ : y.size ≤ sizeLine ∧ k = ((y.size : Int) != 0) := e
    subst e'
    exact PySem.W.truthy_bytes (by omega) ⟨H, I.tok _, q⟩
  | ref p =>
    cases rx
    have e' : (∃ xs, SqL X.K H p xs ∧ k = !xs.isEmpty) ∨ (∃ xs, SqT X.K H p xs ∧ k = !xs.isEmpty) ∨ ∃ kvs, H p = some (.dK kvs) ∧ k = !kvs.isEmpty := e
    rcases e' with ⟨xs, hx, e'⟩ | ⟨xs, hx, e'⟩ | ⟨kvs, hx, e'⟩
    · subst e'
      obtain ⟨its, r, pl, hz⟩ := I.list hx
      have hlen := r.length
      exact wpAny_truthy_list pl.isList (by simp only [List.size_toArray]; omega) ⟨H, I.tok _, by rw [isEmpty_of r]; exact q⟩
    · subst e'
      obtain ⟨its, r, pl, hz⟩ := I.tuple hx
      have hlen := r.length
      exact truthy_tuple pl (by simp only [List.size_toArray]; omega) ⟨H, I.tok _, by rw [isEmpty_of r]; exact q⟩
    · subst e'
      obtain ⟨hz, hS, vs, r, m⟩ : kvs.length ≤ sizeLine ∧ (p == sysModules) = false ∧ ∃ vs, KV kvs vs ∧ s.heap.DictOf (mixKind X.prog X.w) p vs := I.hok p _ hx
      have hlen : kvs.length = vs.length := Paired.length r
      exact wpAny_truthy_dict hS m (by omega) ⟨H, I.tok _, by rw [isEmpty_kv r]; exact q⟩
  | _ => exact (show False from e).elim
theorem pt_truth (ha : PE X a ta) (he : ∀ whole, isTrue a X.env whole = (do let v ← whole; standAt a.pos; holding [v] (truthy v))) :
    PT X a (fun σ H Q => ta σ H fun x H' => ∃ k, TruV X.K x H' k ∧ Q k H') := by
  intro pins s σ H Q I h
  exact isTrue_plain (thn (ha pins s σ H _ I h) fun v s1 ⟨x, H1, I1, r1, q1⟩ => tru_ok pins s1 σ H1 x v Q I1 r1 q1) (he _)

theorem op_add_str : OpR X (binaryOp .Add) (fun x y H Q => ∃ i j, x = .str i ∧ y = .str j ∧ i.length + j.length ≤ sizeLine ∧ Q (.str (i ++ j)) H) := by
  intro pins s σ H x y v u Q I rx ry h
  obtain ⟨i, j, rfl, rfl, hz, q⟩ := h
  obtain ⟨t, rfl⟩ := rx
  obtain ⟨t', rfl⟩ := ry
  exact add_str (fun t' tk => ⟨.str (i ++ j), H, I.tok _, ⟨_, rfl⟩, q⟩) hz
theorem vals1 {x : V} {us : List Value} (r : Vals [x] us) : ∃ u, us = [u] ∧ RelV x u := by
  cases r with
  | cons r1 r2 => cases r2; exact ⟨_, rfl, r1⟩
theorem vals2 {x y : V} {us : List Value} (r : Vals [x, y] us) : ∃ u w', us = [u, w'] ∧ RelV x u ∧ RelV y w' := by
  cases r with
  | cons r1 r2 =>
    cases r2 with
    | cons r3 r4 => cases r4; exact ⟨_, _, rfl, r1, r3⟩
theorem call_abs : CallR X (.builtin "abs") (fun xs H Q => ∃ i, xs = [.int i] ∧ Q (.int (if i < 0 then -i else i)) H) := by
  intro pins s σ H xs us Q I r h
  obtain ⟨i, rfl, q⟩ := h
  obtain ⟨u, rfl, t, rfl⟩ := vals1 r
  exact call_abs_int fun u tk => ⟨.int (if i < 0 then -i else i), H, I.tok _, ⟨_, rfl⟩, q⟩
theorem call_min2 (hc : X.calm = true) : CallR X (.builtin "min") (fun xs H Q => ∃ i j, xs = [.int i, .int j] ∧ Q (.int (if j < i then j else i)) H) := by
  intro pins s σ H xs us Q I r h
  obtain ⟨i, j, rfl, q⟩ := h
  obtain ⟨u, w', rfl, ⟨t, rfl⟩, ⟨t', rfl⟩⟩ := vals2 r
  refine min_two_ints (I.ok.hd hc) fun h' tk k => ⟨_, H, I.kept k, ?_, q⟩
  by_cases hj : j < i
  · rw [if_pos hj, if_pos hj]; exact ⟨_, rfl⟩
  · rw [if_neg hj, if_neg hj]; exact ⟨_, rfl⟩
theorem call_int1 : CallR X (.type "int") (fun xs H Q => (∃ i, xs = [.int i] ∧ Q (.int i) H) ∨ ∃ k, xs = [.bl k] ∧ Q (.int (if k then 1 else 0)) H) := by
  intro pins s σ H xs us Q I r h
  rcases h with ⟨i, rfl, q⟩ | ⟨k, rfl, q⟩
  · obtain ⟨u, rfl, t, rfl⟩ := vals1 r
    exact call_int_int ⟨.int i, H, I, ⟨_, rfl⟩, q⟩
  · obtain ⟨u, rfl, r1⟩ := vals1 r
    cases r1
    exact call_int_bool ⟨.int (if k then 1 else 0), H, I.tok _, ⟨_, rfl⟩, q⟩
end
end L2
namespace L2
open PySem PySem.Spec PyProof.Rows
theorem RelO.some_of {v : V} {o : Option Value} (r : RelO (some v) o) : ∃ u, o = some u ∧ RelV v u := by
  cases o with
  | none => exact (show False from r).elim
  | some u => exact ⟨u, rfl, r⟩
end L2
namespace L2
open PySem PySem.Spec PyProof.Rows
structure Room (k : Nat) (A : Around) : Prop where
  hd : A.handled = none
  dp : A.depth + 3 * k + 5 < recursionLimit
  un : A.units + 16 * k + 200 < cLine
theorem Room.mono {j k : Nat} {A : Around} (r : Room k A) (h : j ≤ k) : Room j A := ⟨r.hd, by have := r.dp; omega, by have := r.un; omega⟩
theorem Room.deeper {k : Nat} {A : Around} (r : Room (k + 1) A) (env : Env) : Room k (A.deeper env) :=
  ⟨r.hd, by have := r.dp; show A.depth + 1 + 3 * k + 5 < _; omega, by have := r.un; show A.units + 3 + 16 * k + 200 < _; omega⟩
theorem Room.depth {k : Nat} {A : Around} (r : Room k A) : A.depth < recursionLimit := by have := r.dp; omega
def tNil : TA := fun _ H Q => Q [] H
def tCons (ta : TE) (tr : TA) : TA := fun σ H Q => ta σ H fun x H1 => tr σ H1 fun xs H2 => Q (x :: xs) H2
section
variable {X : Cx} {e : Expr} {es : List Expr} {te : TE} {t : TA} {pos : Pos}
theorem pa_nil : PA X [] tNil := fun _ _ _ _ H Q I h => Calls.spliced_nil ⟨[], H, I, .nil, h⟩
theorem pa_cons (ha : PE X e te) (hr : PA X es t) (hs : starEach (e :: es) X.env = (false, eval e X.env) :: starEach es X.env := by rfl) : PA X (e :: es) (tCons te t) := by
  intro pos pins s σ H Q I h
  rw [hs]
  show wpAny _ _ (spliced ((false, eval e X.env) :: backTo pos (starEach es X.env))) _ _ s
  refine Calls.spliced_cons (thn (ha pins s σ H _ I h) fun u s1 ⟨x, H1, I1, r1, q1⟩ => ?_)
  exact thn (hr pos pins s1 σ H1 _ I1 q1) fun us s2 ⟨xs, H2, I2, r2, q2⟩ => ⟨x :: xs, H2, I2, .cons r1 r2, q2⟩

def tTup (t : TA) : TE := fun σ H Q => t σ H fun xs H1 => xs.length ≤ sizeLine ∧ ∀ p, H1 p = none → Q (.ref p) (upd H1 p (.tup xs))
def tLst (t : TA) : TE := fun σ H Q => t σ H fun xs H1 => xs.length ≤ sizeLine ∧ ∀ p, H1 p = none → Q (.ref p) (upd H1 p (.lst xs))
theorem pe_tup {x1} (h : PA X es t) : PE X (.Tuple es x1 pos) (tTup t) := by
  intro pins s σ H Q I hq
  refine wpAny_Tuple_spliced (thn (h pos pins s σ H _ I hq) fun us s1 ⟨xs, H1, I1, r, z, q⟩ => ⟨by rw [← r.length]; exact z, ?_⟩)
  have hf : H1 s1.heap.objs.size = none := I1.hok.fresh (Nat.le_refl _)
  refine ⟨.ref s1.heap.objs.size, upd H1 s1.heap.objs.size (.tup xs), I1.laid (t' := s1.toks) (fun b u e => Heap.get?_push_of_some _ e) (Nat.le_refl _) ?_, rfl, q _ hf⟩
  exact ⟨z, us, r, ⟨_, Heap.get?_push_size _ rfl, ⟨rfl, rfl⟩, _, rfl⟩⟩
theorem pe_lst (h : PA X es t) : PE X (.List es pos) (tLst t) := by
  intro pins s σ H Q I hq
  refine wpAny_List_spliced (thn (h pos pins s σ H _ I hq) fun us s1 ⟨xs, H1, I1, r, z, q⟩ => ⟨by rw [← r.length]; exact z, ?_⟩)
  have hf : H1 s1.heap.objs.size = none := I1.hok.fresh (Nat.le_refl _)
  refine ⟨.ref s1.heap.objs.size, upd H1 s1.heap.objs.size (.lst xs), I1.laid (t' := s1.toks) (fun b u e => Heap.get?_push_of_some _ e) (Nat.le_refl _) ?_, rfl, q _ hf⟩
  exact ⟨z, us, 0, r, Heap.get?_push_size _ rfl⟩
end
abbrev Sp := List V → Hp → VK → XK → Prop
abbrev CXT := List Env → Hp → Shared → XK → Value → Shared → Prop

structure Env0 (P : Program) (w : World) (K : PySem.W.Frag) (mg : Str → Option Value) (base : Heap) (A : Around) (outer : List Env) (s : Shared) (H : Hp) : Prop where
  frames : A.frames = some outer
  mod : Mod K mg base
  bs : ∀ b o, base.get? b = some o → s.heap.get? b = some o ∧ H b = none
  bsz : base.objs.size ≤ s.heap.objs.size
  funs : s.heap.FunFrames base outer
  frf : ∀ b ∈ frs outer, H b = none
  hok : HOk P w H s.heap
  bare : AllBare s.gens
def CE (outer : List Env) (P : Program) (w : World) (H : Hp) (s : Shared) (Q : VK) (u : Value) (s' : Shared) : Prop :=
  ∃ v H', s'.os = s.os ∧ AllBare s'.gens ∧ Un (frs outer) [] H H' s.heap s'.heap ∧ HOk P w H' s'.heap ∧ RelV v u ∧ Q v H'
def CR (CX : CXT) (outer : List Env) (P : Program) (w : World) (H : Hp) (s : Shared) (Q : VK) (E : XK) (r : Result) (s' : Shared) : Prop :=
  match r with
  | .ok (.ret u) => CE outer P w H s Q u s'
  | .ok _ => False
  | .error e => CX outer H s E e s'
structure FnOk (P : Program) (w : World) (K : PySem.W.Frag) (mg : Str → Option Value) (base : Heap) (CX : CXT) (k : Nat) (f : Addr) (fd : FuncData) (ps : List Str) (sp : Sp) : Prop where
  len : ∀ vs H Q E, sp vs H Q E → vs.length = ps.length
  run : ∀ (A : Around) (outer : List Env) (s : Shared) (H : Hp) (args : Args) (us : List Value) (vs : List V) (Q : VK) (E : XK), Room k A → Env0 P w K mg base A outer s H → BindsTo s fd args (ps.zip us) → Vals vs us → sp vs H Q E →
    codeAny (model P w) A (.call (.ref f) args) (CR CX outer P w H s Q E) s
theorem FnOk.mono {P : Program} {w : World} {K : PySem.W.Frag} {mg : Str → Option Value} {base : Heap} {CX : CXT} {j k : Nat} {f : Addr} {fd : FuncData} {ps : List Str} {sp : Sp} (F : FnOk P w K mg base CX j f fd ps sp) (h : j ≤ k) :
    FnOk P w K mg base CX k f fd ps sp := ⟨F.len, fun A outer s H args us vs Q E hr => F.run A outer s H args us vs Q E (hr.mono h)⟩
theorem FnOk.imp {P : Program} {w : World} {K : PySem.W.Frag} {mg : Str → Option Value} {base : Heap} {CX : CXT} {k : Nat} {f : Addr} {fd : FuncData} {ps : List Str} {sp sp' : Sp} (F : FnOk P w K mg base CX k f fd ps sp)
    (h : ∀ vs H Q E, sp' vs H Q E → sp vs H Q E) : FnOk P w K mg base CX k f fd ps sp' :=
  ⟨fun vs H Q E q => F.len vs H Q E (h _ _ _ _ q), fun A outer s H args us vs Q E hr he hb hv hs => F.run A outer s H args us vs Q E hr he hb hv (h _ _ _ _ hs)⟩

section
variable {X : Cx} {pins : List (Addr × Obj)} {σ : St} {H : Hp} {s s' : Shared}
theorem Inv.env0 (I : Inv X pins σ H s) : Env0 X.prog X.w X.K X.mg X.base X.A X.stack s H :=
  ⟨I.ok.frames, I.ok.mod, I.bs, Nat.le_trans I.ok.bsz I.sz, I.stack, I.stkFree, I.hok, I.bare⟩
theorem Inv.after {Q : VK} {u : Value} (I : Inv X pins σ H s) (h : CE X.stack X.prog X.w H s Q u s') : EP X pins σ Q u s' := by
  obtain ⟨v, H', os, bare, un, hok, r, q⟩ := h
  obtain ⟨hh, g, d, t, os'⟩ := s'
  obtain rfl : os' = s.os := os
  exact ⟨v, H', I.call (h' := hh) (g' := g) (d' := d) (t' := t) (ch := []) un hok bare (fun b z => absurd z (by simp)), r, q⟩
end
def tCall (sp : Sp) (dvs : List V) (E : XK) (t : TA) : TE := fun σ H Q => t σ H fun vs H1 => sp (vs ++ dvs) H1 Q E
def Binds (K : PySem.W.Frag) (fd : FuncData) (ps : List Str) (ds : List Value) : Prop :=
  ∀ (s : Shared) (us : List Value), K.In s.heap → (us ++ ds).length = ps.length → BindsTo s fd ⟨us, []⟩ (ps.zip (us ++ ds))
theorem Binds.all {K : PySem.W.Frag} {fd : FuncData} {ps : List Str} (h : ∀ us : List Value, us.length = ps.length → bindArgs fd ⟨us, []⟩ = pure (ps.zip us)) : Binds K fd ps [] := fun s us _ hl => by
  rw [List.append_nil] at hl ⊢
  exact .of_eq (h us hl)

def Passes (CX : CXT) (X : Cx) (E : XK) : Prop := ∀ (pins : List (Addr × Obj)) (σ : St) (H : Hp) (s : Shared) (e : Value) (s' : Shared), Inv X pins σ H s → CX X.stack H s E e s' → X.xe e s'

section
variable {X : Cx} {CX : CXT} {k : Nat} {f C : Addr} {fd : FuncData} {ps : List Str} {sp : Sp} {dvs : List V} {ds : List Value} {E : XK} {x m : Str} {p pos apos : Pos} {e o : Expr} {es : List Expr} {ta : TE} {t : TA}
theorem run_fn {pins : List (Addr × Obj)} {σ : St} {H : Hp} {s : Shared} {Q : VK} {us : List Value} {vs : List V} (F : FnOk X.prog X.w X.K X.mg X.base CX k f fd ps sp) (hr : Room k X.A) (hb : Binds X.K fd ps ds) (hd : Vals dvs ds) (hx : Passes CX X E)
    (I : Inv X pins σ H s) (r : Vals vs us) (h : sp (vs ++ dvs) H Q E) : wpAny (model X.prog X.w) X.A (call (.ref f) us) (EP X pins σ Q) X.xe s := by
  have r2 : Vals (vs ++ dvs) (us ++ ds) := r.append hd
  have hl : (us ++ ds).length = ps.length := by rw [← r2.length]; exact F.len _ _ _ _ h
  refine wpAny_call (codeAny_mono (F.run X.A X.stack s H ⟨us, []⟩ (us ++ ds) (vs ++ dvs) Q E hr I.env0 (hb s us I.kIn hl) r2 h) fun r s' hq => ?_)
  cases r with
  | error e => exact hx pins σ H s e s' I hq
  | ok fl =>
    cases fl with
    | ret u => exact I.after hq
    | next => exact False.elim hq
    | brk => exact False.elim hq
    | cont => exact False.elim hq

theorem pe_call (F : FnOk X.prog X.w X.K X.mg X.base CX k f fd ps sp) (hr : Room k X.A) (hg : Gl X x) (hm : X.mg x = some (.ref f)) (hk : PySem.W.keepIn X.K (.ref f) = true) (hb : Binds X.K fd ps ds) (hd : Vals dvs ds) (hx : Passes CX X E)
    (ha : PA X (e :: es) t) (hdb : (x == ("__debug__" : Str)) = false := by decide) (he : starEach (e :: es) X.env = (false, eval e X.env) :: starEach es X.env := by rfl) (hpl : (backTo pos (starEach es X.env)).any (·.1) = false := by rfl) :
    PE X (.Call (.Name x p) (e :: es) [] pos) (tCall sp dvs E t) := by
  intro pins s σ H Q I h
  refine wpAny_Call_Name_kw (ld_glob I hg hm ?_ hdb)
  refine PySem.W.callWith_K (h₀ := X.base) I.ok.mod.kin hk (thn (ha pos pins s σ H _ I h) fun us s1 ⟨vs, H1, I1, r, q⟩ => ⟨I1.kIn, ?_⟩) he hpl
  exact run_fn F hr hb hd hx I1 r q
end
structure FnScope (N P : List Str) (sc : Scope) : Prop where
  kind : sc.kind = .function
  co : sc.isCoroutine = false
  gen : sc.isGenerator = false
  nd : N.Nodup
  pre : N.take P.length = P
  par : ∀ x ∈ P, sc.names.lookup x = some .local ∨ sc.names.lookup x = some .cell
  nofree : ∀ y ∈ sc.names, y.2 ≠ .free

theorem bindL_out {kindOf : Str → Option NameKind} {x : Str} : ∀ {binds : List (Str × Value)} {m : Str → Option Value}, (∀ v, (x, v) ∉ binds) → bindL kindOf binds m x = m x
  | [], _, _ => rfl
  | (n, v) :: r, m, h => by
    unfold bindL
    rw [bindL_out fun w hw => h w (List.mem_cons_of_mem _ hw)]
    split
    · have : x ≠ n := by rintro rfl; exact h v List.mem_cons_self
      simp [this]
    · rfl
theorem bindC_out {kindOf : Str → Option NameKind} {x : Str} : ∀ {binds : List (Str × Value)} {m : Str → Option Value}, (∀ v, (x, v) ∉ binds) → bindC kindOf binds m x = m x
  | [], _, _ => rfl
  | (n, v) :: r, m, h => by
    unfold bindC
    rw [bindC_out fun w hw => h w (List.mem_cons_of_mem _ hw)]
    split
    · rfl
    · have : x ≠ n := by rintro rfl; exact h v List.mem_cons_self
      simp [this]
theorem bindL_get {kindOf : Str → Option NameKind} {x : Str} {v : Value} : ∀ {P : List Str} {vs : List Value} {i : Nat} {m : Str → Option Value}, P.Nodup → P[i]? = some x → vs[i]? = some v → kindOf x = some .local →
    bindL kindOf (P.zip vs) m x = some v
  | [], _, _, _, _, h, _, _ => by simp at h
  | _ :: _, [], _, _, _, _, h, _ => by simp at h
  | p :: P, w :: vs, 0, m, nd, h1, h2, hk => by
    simp at h1 h2; subst h1; subst h2
    show bindL kindOf ((p, w) :: P.zip vs) m p = _
    unfold bindL
    rw [bindL_out fun v hv => (List.nodup_cons.mp nd).1 (List.of_mem_zip hv).1, if_pos hk]
    simp
  | p :: P, w :: vs, i + 1, m, nd, h1, h2, hk => by
    show bindL kindOf ((p, w) :: P.zip vs) m x = _
    unfold bindL
    exact bindL_get (i := i) (List.nodup_cons.mp nd).2 (by simpa using h1) (by simpa using h2) hk
theorem bindC_get {kindOf : Str → Option NameKind} {x : Str} {v : Value} : ∀ {P : List Str} {vs : List Value} {i : Nat} {m : Str → Option Value}, P.Nodup → P[i]? = some x → vs[i]? = some v → kindOf x ≠ some .local →
    bindC kindOf (P.zip vs) m x = some v
  | [], _, _, _, _, h, _, _ => by simp at h
  | _ :: _, [], _, _, _, _, h, _ => by simp at h
  | p :: P, w :: vs, 0, m, nd, h1, h2, hk => by
    simp at h1 h2; subst h1; subst h2
    show bindC kindOf ((p, w) :: P.zip vs) m p = _
    unfold bindC
    rw [bindC_out fun v hv => (List.nodup_cons.mp nd).1 (List.of_mem_zip hv).1, if_neg hk]
    simp
  | p :: P, w :: vs, i + 1, m, nd, h1, h2, hk => by
    show bindC kindOf ((p, w) :: P.zip vs) m x = _
    unfold bindC
    exact bindC_get (i := i) (List.nodup_cons.mp nd).2 (by simpa using h1) (by simpa using h2) hk

def start (N : List Str) (vs : List V) : St := vs.map some ++ List.replicate (N.length - vs.length) none

def cxOf (CX : CXT) (P : Program) (w : World) (K : PySem.W.Frag) (mg : Str → Option Value) (base : Heap) (N : List Str) (qual : Str) (scope : Scope) (f : Addr) (cd : Value) (A : Around) (outer : List Env) (s : Shared) (H : Hp) (E : XK) : Cx where
  prog := P
  w := w
  K := K
  mg := mg
  base := base
  A := A.deeper (envOfC qual scope s.heap.objs.size f cd)
  N := N
  s₀ := s
  H₀ := H
  env := envOfC qual scope s.heap.objs.size f cd
  outer := outer
  stack := envOfC qual scope s.heap.objs.size f cd :: outer
  ex := []
  calm := true
  fn := fun _ => true
  pn := []
  xe := fun e s' => wpAny (model P w) (A.deeper (envOfC qual scope s.heap.objs.size f cd)) (leaving (envOfC qual scope s.heap.objs.size f cd) e) (fun _ s'' => CX outer H s E e s'') (fun e' s'' => CX outer H s E e' s'') s'

theorem cell_has {sc : Scope} {n : Nat} {x : Str} (h : sc.names.lookup x = some .cell) : ∃ c, (cellsFrom n sc.names []).lookup x = some c := by
  have q := PySem.W.cellsFrom_some sc.names n [] (.inl h)
  exact Option.isSome_iff_exists.mp q

theorem inv_start {CX : CXT} {P : Program} {w : World} {K : PySem.W.Frag} {mg : Str → Option Value} {base : Heap} {N ps : List Str} {qual : Str} {scope : Scope} {f : Addr} {cd : Value} {A : Around} {outer : List Env} {s s1 : Shared} {H : Hp} {E : XK} {us : List Value} {vs : List V}
    (S : FnScope N ps scope) (hd : A.handled = none) (e0 : Env0 P w K mg base A outer s H) (hl : vs.length = ps.length) (r : Vals vs us)
    (x : InCallC s s.heap.objs.size (bindL (envOfC qual scope s.heap.objs.size f cd).kindOf (ps.zip us) fun _ => none) (cellsFrom (s.heap.objs.size + 1) scope.names []) (bindC (envOfC qual scope s.heap.objs.size f cd).kindOf (ps.zip us) fun _ => none) s1) :
    Inv (cxOf CX P w K mg base N qual scope f cd A outer s H E) [] (start N vs) H s1 := by
  have hpl : ps.length ≤ N.length := by have := congrArg List.length S.pre; rw [List.length_take] at this; omega
  obtain ⟨h1, tk, rfl, hk⟩ := x.done
  have noA : ∀ b : Addr, b ∉ (cxOf CX P w K mg base N qual scope f cd A outer s H E).ex := fun b z => absurd (show b ∈ ([] : List Addr) from z) (by simp)
  refine ⟨⟨e0.mod, S.kind, rfl, rfl, Nat.le_refl _, fun y z c h1 h2 => ?_, fun y hy => ?_, fun y c _ h => ?_, fun _ => hd, Around.frames_deeper e0.frames, .inr ⟨rfl, rfl⟩, fun b z => absurd z (noA b), e0.bs, e0.bsz, fun b _ _ => noA b, fun b z => absurd z (noA b), e0.funs, e0.frf⟩,
    rfl, e0.bare, Un.kept hk, ⟨_, x.toInCall.ns, fun i y v h1 h2 h3 => ?_⟩, fun y c h => ⟨_, x.cell y c h⟩, e0.hok.fresh (Nat.le_refl _), fun y c h => ?_, fun p hp => absurd (show p ∈ ([] : List (Addr × Obj)) from hp) (by simp), e0.hok.kept hk, ?_⟩
  · exact name_of_addr x.apart (PySem.mem_of_lookup h1) (PySem.mem_of_lookup h2)
  · have hy : scope.names.lookup y = some .cell ∨ scope.names.lookup y = some .free := hy
    rcases hy with hy | hy
    · exact cell_has hy
    · exact absurd rfl (S.nofree _ (PySem.mem_of_lookup hy))
  · exact Nat.le_of_lt (x.above y c (PySem.mem_of_lookup h))
  · have hi : i < vs.length := by
      unfold start at h2
      by_cases hi : i < vs.length
      · exact hi
      · rw [List.getElem?_append_right (by simpa using hi)] at h2
        rw [List.getElem?_replicate] at h2
        split at h2 <;> cases h2
    have ha : vs[i]? = some v := by
      unfold start at h2
      rw [List.getElem?_append_left (by simpa using hi), List.getElem?_map] at h2
      cases e : vs[i]? with
      | none => rw [e] at h2; cases h2
      | some a => rw [e] at h2; cases h2; rfl
    obtain ⟨u, hu, rv⟩ := r.get ha
    have hp : ps[i]? = some y := by
      rw [← S.pre, List.getElem?_take_of_lt (by omega)]; exact h1
    have ndP : ps.Nodup := by rw [← S.pre]; exact S.nd.sublist (List.take_sublist _ _)
    refine ⟨u, rv, ?_⟩
    rcases S.par y (List.mem_of_getElem? hp) with k | k
    · exact .inl ⟨k, bindL_get ndP hp hu k⟩
    · obtain ⟨c, e⟩ := cell_has (n := s.heap.objs.size + 1) k
      refine .inr ⟨.inl k, c, e, ?_⟩
      have q := x.cell y c e
      rw [bindC_get ndP hp hu (by show scope.names.lookup y ≠ _; rw [k]; decide)] at q
      exact q
  · exact e0.hok.fresh (Nat.le_of_lt (x.above y c (PySem.mem_of_lookup h)))
  · unfold start
    show _ = N.length
    rw [List.length_append, List.length_map, List.length_replicate]
    omega

theorem fn_of {CX : CXT} {P : Program} {w : World} {K : PySem.W.Frag} {mg : Str → Option Value} {base : Heap} {k : Nat} {f : Addr} {name qual : Str} {params : Arguments} {body : List Stmt} {scope : Scope} {dV kV doc pm cdv ct oc : Value} {an od : Option Addr}
    {osl : Array (Option Value)} {N ps : List Str} {sp : Sp} (lk : K.lookup f = some ⟨oc, od, .func (PySem.W.fnOf name qual params body scope dV kV doc pm an cdv ct), osl⟩) (hcd : PySem.W.codeIn K cdv qual = true) (S : FnScope N ps scope)
    (len : ∀ vs H Q E, sp vs H Q E → vs.length = ps.length)
    (hbody : ∀ (A : Around) (outer : List Env) (s : Shared) (H : Hp) (vs : List V) (Q : VK) (E : XK), Room k (A.deeper (envOfC qual scope s.heap.objs.size f cdv)) → sp vs H Q E →
      ∃ t, PSs (cxOf CX P w K mg base N qual scope f cdv A outer s H E) body t ∧ t { nx := fun _ H' => Q .non H', rt := Q } (start N vs) H) :
    FnOk P w K mg base CX (k + 1) f (PySem.W.fnOf name qual params body scope dV kV doc pm an cdv ct) ps sp := by
  refine ⟨len, fun A outer s H args us vs Q E hr e0 hb r hsp => ?_⟩
  have hl := len _ _ _ _ hsp
  have KX : K.In s.heap := e0.mod.kin.keeps fun b o e => (e0.bs b o e).1
  have lim : s.heap.NoLimit := e0.mod.nolimit.keeps fun b o e => (e0.bs b o e).1
  have hkind : ∀ y ∈ ps.zip us, scope.names.lookup y.1 = some .local ∨ (scope.names.lookup y.1 = some .cell ∧ ((cellsFrom (s.heap.objs.size + 1) scope.names []).lookup y.1).isSome = true) := fun ⟨n, v⟩ hy => by
    rcases S.par n (List.of_mem_zip hy).1 with q | q
    · exact .inl q
    · exact .inr ⟨q, PySem.W.cellsFrom_some _ _ _ (.inl q)⟩
  refine codeAny_call_function hr.depth (KX _ _ lk) rfl S.co S.gen rfl (PySem.W.codeRec_of KX hcd) (hb _ _ _ _ ?_)
  refine wpAny_newFunctionEnv_cells S.kind hkind fun env he s1 x => ?_
  subst he
  refine ⟨lim.keeps x.toInCall.keep, codeAny_func ?_⟩
  obtain ⟨t, ht, hq⟩ := hbody A outer s H vs Q E (hr.deeper _) hsp
  have I : Inv (cxOf CX P w K mg base N qual scope f cdv A outer s H E) [] (start N vs) H s1 := inv_start S hr.hd e0 hl r x
  refine wpAny_mono (ht [] s1 (start N vs) H _ I hq) (fun fl s' hs => ?_) fun e s' hs => hs
  have fin : ∀ {σ' : St} {H' : Hp} {v : V} {u : Value}, Inv (cxOf CX P w K mg base N qual scope f cdv A outer s H E) [] σ' H' s' → RelV v u → Q v H' → CE outer P w H s Q u s' :=
    fun {σ' H' v u} J rv q => ⟨v, H', J.os, J.bare, J.base, J.hok, rv, q⟩
  cases fl with
  | ret u =>
    obtain ⟨v, σ', H', J, rv, q⟩ := hs
    exact fin J rv q
  | next =>
    obtain ⟨σ', H', J, q⟩ := hs
    exact fin (v := V.non) (u := Value.none) J rfl q
  | brk =>
    obtain ⟨_, _, _, q⟩ := hs
    exact False.elim q
  | cont =>
    obtain ⟨_, _, _, q⟩ := hs
    exact False.elim q
end L2
namespace L2
open PySem PySem.Spec PyProof.Rows
section
variable {X : Cx} {x : Str} {p pos : Pos} {e : Expr} {es : List Expr} {t : TA} {id T : String} {r : List V → Hp → VK → Prop}
def tCB (r : List V → Hp → VK → Prop) (t : TA) : TE := fun σ H Q => t σ H fun vs H1 => r vs H1 Q
theorem pe_callB (hc : CallR X (.builtin id) r) (hg : Gl X x) (hm : X.mg x = none) (hv : bootBuiltins x = some (.builtin id)) (ha : PA X (e :: es) t) (hn : x ≠ "__name__" := by decide) (hdb : (x == ("__debug__" : Str)) = false := by decide)
    (he : starEach (e :: es) X.env = (false, eval e X.env) :: starEach es X.env := by rfl) (hpl : (backTo pos (starEach es X.env)).any (·.1) = false := by rfl) : PE X (.Call (.Name x p) (e :: es) [] pos) (tCB r t) := by
  intro pins s σ H Q I h
  refine wpAny_Call_Name_kw (ld_blt I hg hm hv ?_ hn hdb)
  exact PyProof.Rows.callWith_builtin1 (thn (ha pos pins s σ H _ I h) fun us s1 ⟨vs, H1, I1, r1, q1⟩ => hc pins s1 σ H1 vs us Q I1 r1 q1) he hpl
theorem pe_callTy (hc : CallR X (.type T) r) (hg : Gl X x) (hm : X.mg x = none) (hv : bootBuiltins x = some (.type T)) (ha : PA X (e :: es) t) (hn : x ≠ "__name__" := by decide) (hdb : (x == ("__debug__" : Str)) = false := by decide)
    (he : starEach (e :: es) X.env = (false, eval e X.env) :: starEach es X.env := by rfl) (hpl : (backTo pos (starEach es X.env)).any (·.1) = false := by rfl) : PE X (.Call (.Name x p) (e :: es) [] pos) (tCB r t) := by
  intro pins s σ H Q I h
  refine wpAny_Call_Name_kw (ld_blt I hg hm hv ?_ hn hdb)
  exact PyProof.Rows.callWith_type1 (thn (ha pos pins s σ H _ I h) fun us s1 ⟨vs, H1, I1, r1, q1⟩ => hc pins s1 σ H1 vs us Q I1 r1 q1) he hpl
end
end L2
namespace HT
open PySem PyProof.Rows
section
variable {prog : Program} {w : World} {A : Around} {E : Value → Shared → Prop} {s : Shared}
theorem cat_tup {t b : Addr} {vs ws : List Value} {Q : Value → Shared → Prop} (ht : IsTup s.heap t vs.toArray) (hb : IsTup s.heap b ws.toArray) (hv : vs ≠ [])
    (h1 : ws = [] → Q (.ref t) s) (h2 : ws ≠ [] → Q (.ref s.heap.objs.size) { s with heap := s.heap.push { cls := .type "tuple", data := .seq (vs ++ ws).toArray } })
    (hsz : vs.length + ws.length ≤ sizeLine) : wpAny (model prog w) A (binaryOp .Add (.ref t) (.ref b)) Q E s := by
  obtain ⟨⟨cls, dd, data, sl⟩, ho, hc, n, hd⟩ := id ht
  obtain ⟨⟨cls2, dd2, data2, sl2⟩, ho2, hc2, n2, hd2⟩ := id hb
  simp only at hc hd hc2 hd2
  subst hc hd hc2 hd2
  have e : vs.toArray ++ ws.toArray = (vs ++ ws).toArray := by simp
  by_cases hw : ws = []
  · exact concat_meets ⟨_, ho, rfl⟩ ⟨_, ho2, rfl⟩ noFill_tuple_add seq_tuple_add PySem.F.slot_tuple_add PySem.F.entry_tuple_add (PySem.F.args_tuple_add_2 _ _)
      (tuple_addW1 t b vs.toArray ws.toArray n n2 dd dd2 sl sl2 (by simpa using hv) (by simp [hw])) ⟨ho, ho2, h1 hw⟩
  · refine concat_meets ⟨_, ho, rfl⟩ ⟨_, ho2, rfl⟩ noFill_tuple_add seq_tuple_add PySem.F.slot_tuple_add PySem.F.entry_tuple_add (PySem.F.args_tuple_add_2 _ _)
      (tuple_addW2 t b vs.toArray ws.toArray n n2 dd dd2 sl sl2 (by simpa using hv) (by simpa using hw) (by rw [List.size_toArray, List.size_toArray]; exact hsz)) ⟨ho, ho2, ?_⟩
    rw [e]
    exact h2 hw

def sIx (n d : Nat) : Option Int → Nat
  | none => d
  | some v => if v < 0 then (v + (n : Int)).toNat else min v.toNat n
theorem sIx_none (n d : Nat) : sIx n d none = d := rfl
theorem sIx_nat (n d k : Nat) : sIx n d (some (k : Int)) = min k n := by
  show (if (k : Int) < 0 then ((k : Int) + (n : Int)).toNat else min (k : Int).toNat n) = min k n
  rw [if_neg (by omega), Int.toNat_natCast]
theorem sIx_le (n d : Nat) (hd : d ≤ n) (o : Option Int) : sIx n d o ≤ n := by
  cases o with
  | none => exact hd
  | some v =>
    show (if v < 0 then (v + (n : Int)).toNat else min v.toNat n) ≤ n
    by_cases hv : v < 0
    · rw [if_pos hv]; omega
    · rw [if_neg hv]; exact Nat.min_le_right _ _
theorem clip_eq (v : Int) (n d : Nat) : (if v < 0 then max (v + (n : Int)) 0 else min v (n : Int)) = ((sIx n d (some v) : Nat) : Int) := by
  show (if v < 0 then max (v + (n : Int)) 0 else min v (n : Int)) = (((if v < 0 then (v + (n : Int)).toNat else min v.toNat n) : Nat) : Int)
  by_cases hv : v < 0
  · simp only [if_pos hv]; omega
  · simp only [if_neg hv]; omega
theorem adjust_gen (lo hi : Option Int) (n : Nat) : Builtin.Slice.sliceAdjust lo hi 1 (n : Int) = (((sIx n 0 lo : Nat) : Int), ((sIx n n hi : Nat) : Int)) := by
  have h1 : ¬ ((1 : Int) < 0) := by omega
  unfold Builtin.Slice.sliceAdjust
  simp only [h1, if_false]
  refine Prod.ext ?_ ?_
  · cases lo with
    | none => rfl
    | some v => exact clip_eq v n 0
  · cases hi with
    | none => rfl
    | some v => exact clip_eq v n n
theorem places_gen (i j : Nat) : Builtin.Slice.slicePlaces (i : Int) (j : Int) 1 = j - i := by
  unfold Builtin.Slice.slicePlaces
  have h1 : (1 : Int) > 0 := by omega
  simp only [h1, if_true, Int.ediv_one]
  split <;> omega
theorem slicePart_ {v : Value} {o : Option Int} {Q : Option Int → Shared → Prop} (p : IsPart v o) (h : Q o s) : wpAny (model prog w) A (Builtin.Slice.slicePartIndex v) Q E s := by
  cases p with
  | none => exact slicePart_none h
  | int i t => exact slicePart_int h
theorem sliceApplied_gen {sl : Addr} {vl vu : Value} {lo hi : Option Int} {n : Nat} {Q : Int × Int × Nat → Shared → Prop} (hs : s.heap.IsSliceOf sl vl vu .none) (pl : IsPart vl lo) (pu : IsPart vu hi)
    (h : Q (((sIx n 0 lo : Nat) : Int), 1, sIx n n hi - sIx n 0 lo) s) : wpAny (model prog w) A (Builtin.Slice.sliceApplied (.ref sl) (pure (n : Int))) Q E s := by
  obtain ⟨os, hos, hcs, hds⟩ := id hs
  unfold Builtin.Slice.sliceApplied Builtin.Slice.sliceFields
  refine wpAny_bind (wpAny_bind (wpAny_field hos hds (x := vl) rfl (wpAny_bind (wpAny_field hos hds (x := vu) rfl (wpAny_bind (wpAny_field hos hds (x := .none) rfl (wpAny_pure ?_)))))))
  refine wpAny_bind (slicePart_none ?_)
  show wpAny _ _ (if ((1 : Int) == 0) = true then _ else _) _ _ s
  rw [if_neg (by decide)]
  refine wpAny_bind (slicePart_ pl (wpAny_bind (slicePart_ pu (wpAny_bind (wpAny_pure ?_)))))
  show wpAny _ _ (match Builtin.Slice.sliceAdjust lo hi 1 (n : Int) with | (lo, hi) => pure (lo, (1 : Int), Builtin.Slice.slicePlaces lo hi 1)) _ _ s
  rw [adjust_gen lo hi n]
  show wpAny _ _ (pure (((sIx n 0 lo : Nat) : Int), (1 : Int), Builtin.Slice.slicePlaces ((sIx n 0 lo : Nat) : Int) ((sIx n n hi : Nat) : Int) 1)) _ _ s
  rw [places_gen]
  exact wpAny_pure h
theorem pick_gen (xs : Array Value) (i k : Nat) : ((List.range k).filterMap fun (m : Nat) => xs[((i : Int) + (m : Int) * 1).toNat]?).toArray = ((xs.toList.drop i).take k).toArray := by
  have e : (fun (m : Nat) => xs[((i : Int) + (m : Int) * 1).toNat]?) = fun m => xs[i + m]? := by
    funext m
    have : ((i : Int) + (m : Int) * 1).toNat = i + m := by omega
    rw [this]
  rw [e]
  have := pick_run xs i k
  rw [List.filterMap_map] at this
  have e2 : ((fun x => xs[x]?) ∘ fun x => i + x) = fun m => xs[i + m]? := rfl
  rw [e2] at this
  rw [this]

theorem getItem_tuple_cut {t sl : Addr} {items : Array Value} {vl vu : Value} {lo hi : Option Int} {Q : Value → Shared → Prop} (ht : IsTup s.heap t items) (hs : s.heap.IsSliceOf sl vl vu .none) (pl : IsPart vl lo) (pu : IsPart vu hi)
    (hw : ¬ (sIx items.size 0 lo = 0 ∧ sIx items.size items.size hi = items.size))
    (h : Q (.ref s.heap.objs.size) { s with heap := s.heap.push { cls := .type "tuple", data := .seq ((items.toList.drop (sIx items.size 0 lo)).take (sIx items.size items.size hi - sIx items.size 0 lo)).toArray } })
    (hsz : items.size ≤ sizeLine) : wpAny (model prog w) A (getItem (.ref t) (.ref sl)) Q E s := by
  have htake : sizeOk (.seq ((items.toList.drop (sIx items.size 0 lo)).take (sIx items.size items.size hi - sIx items.size 0 lo)).toArray) := by
    show ((items.toList.drop (sIx items.size 0 lo)).take (sIx items.size items.size hi - sIx items.size 0 lo)).toArray.size ≤ sizeLine
    rw [List.size_toArray, List.length_take, List.length_drop, Array.length_toList]
    omega
  have hj : sIx items.size items.size hi ≤ items.size := sIx_le _ _ (Nat.le_refl _) hi
  obtain ⟨os, hos, hcs, hds⟩ := id hs
  have hTs : s.TypeIs (.ref sl) "slice" := ⟨os, hos, hcs⟩
  unfold getItem
  try with_reducible refine wpAny_holding ?_
  first | refine wpAny_bind (wpAny_pure ?_) | skip
  refine wpAny_bind (wpAny_sequenceKey ht.typeIs (by decide) ?_)
  refine wpAny_bind (wpAny_callSpecial?_slot (name := Str.ofString "__getitem__") ht.typeIs PyProof.Rows.slot_tuple_getitem
    (wpAny_call_entry PyProof.Rows.slot_tuple_getitem ht.typeIs entry_tuple_getitem ?_ (args_tuple_getitem _ _)))
  show wpAny _ _ (Builtin.Tuple.tupleItemsOf (.ref t) >>= _) _ _ s
  refine wpAny_bind (tupleItemsOf_ ht ?_)
  refine wpAny_bind (wpAny_typeOf hTs ?_)
  rw [if_pos (by decide)]
  refine wpAny_bind (sliceApplied_gen hs pl pu ?_)
  have hno : ¬ ((((sIx items.size 0 lo : Nat) : Int) == 0 && (1 : Int) == 1 && (sIx items.size items.size hi - sIx items.size 0 lo) == items.size) = true) := by
    intro q
    rw [Bool.and_eq_true, Bool.and_eq_true] at q
    have q1 : ((sIx items.size 0 lo : Nat) : Int) = 0 := eq_of_beq q.1.1
    have q2 : sIx items.size items.size hi - sIx items.size 0 lo = items.size := eq_of_beq q.2
    exact hw ⟨by omega, by omega⟩
  show wpAny _ _ (if (((sIx items.size 0 lo : Nat) : Int) == 0 && (1 : Int) == 1 && (sIx items.size items.size hi - sIx items.size 0 lo) == items.size) = true then _ else _) _ _ s
  rw [if_neg hno, pick_gen]
  first
    | exact wpAny_bind (m := Builtin.Tuple.tupleExact _) (wpAny_newObj_type (wpAny_pure ⟨_, rfl, wpAny_pure h⟩) htake)
    | exact wpAny_bind (m := Builtin.Tuple.tupleExact _) (wpAny_newObj_type (wpAny_bind (wpAny_pure (wpAny_pure ⟨_, rfl, wpAny_pure h⟩))) htake)
    | exact wpAny_bind (wpAny_bind (m := Builtin.Tuple.tupleExact _) (wpAny_newObj_type (wpAny_pure (wpAny_pure ⟨_, rfl, wpAny_pure h⟩)) htake))
    | exact wpAny_bind (wpAny_bind (m := Builtin.Tuple.tupleExact _) (wpAny_newObj_type (wpAny_pure ⟨_, rfl, wpAny_pure h⟩) htake))
end
end HT
namespace L2
open PySem PySem.Spec PyProof.Rows
abbrev TO := St → Hp → (Option Int → Hp → Prop) → Prop
def PO (X : Cx) (e : Option Expr) (t : TO) : Prop :=
  ∀ (pins : List (Addr × Obj)) (s : Shared) (σ : St) (H : Hp) (Q : Option Int → Hp → Prop), Inv X pins σ H s → t σ H Q →
    wpAny (model X.prog X.w) X.A (evalPart e X.env) (fun u s' => ∃ o H', Inv X pins σ H' s' ∧ IsPart u o ∧ Q o H') X.xe s
def tNoPart : TO := fun _ H Q => Q none H
def tPart (t : TE) : TO := fun σ H Q => t σ H fun x H1 => ∃ i, x = .int i ∧ Q (some i) H1

section
variable {X : Cx} {e : Expr} {te : TE} {lo hi : Option Expr} {tl th : TO} {pos p2 : Pos}
theorem po_none : PO X none tNoPart := by
  intro pins s σ H Q I h
  rw [evalPart_none]
  exact wpAny_pure ⟨none, H, I, .none, h⟩
theorem po_some (h : PE X e te) : PO X (some e) (tPart te) := by
  intro pins s σ H Q I hw
  rw [evalPart_some]
  refine thn (h pins s σ H _ I hw) fun u s1 ⟨x, H1, I1, r1, q1⟩ => ?_
  obtain ⟨i, rfl, q⟩ := q1
  obtain ⟨t, rfl⟩ := r1
  exact ⟨some i, H1, I1, .int i t, q⟩

def SlR (X : Cx) (r : V → Option Int → Option Int → Hp → VK → Prop) : Prop :=
  ∀ (pins : List (Addr × Obj)) (s : Shared) (σ : St) (H : Hp) (x : V) (v vl vu : Value) (lo hi : Option Int) (sl : Addr) (Q : VK), Inv X pins σ H s → RelV x v → s.heap.IsSliceOf sl vl vu .none → IsPart vl lo → IsPart vu hi → r x lo hi H Q →
    ∃ T id, typeLookup (.type T) "__getitem__" = pure (some (.builtin id)) ∧ s.TypeIs v T ∧ wpAny (model X.prog X.w) X.A (getItem v (.ref sl)) (EP X pins σ Q) X.xe s
theorem SlR.or {r r' : V → Option Int → Option Int → Hp → VK → Prop} (h : SlR X r) (h' : SlR X r') : SlR X (fun x lo hi H Q => r x lo hi H Q ∨ r' x lo hi H Q) := by
  intro pins s σ H x v vl vu lo hi sl Q I rx hs pl pu q
  rcases q with q | q
  · exact h pins s σ H x v vl vu lo hi sl Q I rx hs pl pu q
  · exact h' pins s σ H x v vl vu lo hi sl Q I rx hs pl pu q
def tSl (r : V → Option Int → Option Int → Hp → VK → Prop) (te : TE) (tl th : TO) : TE := fun σ H Q => te σ H fun x H1 => tl σ H1 fun l H2 => th σ H2 fun u H3 => r x l u H3 Q
theorem pe_slice {r : V → Option Int → Option Int → Hp → VK → Prop} (hr : SlR X r) (he : PE X e te) (hl : PO X lo tl) (hu : PO X hi th) : PE X (.Subscript e (.Slice lo hi none p2) pos) (tSl r te tl th) := by
  intro pins s σ H Q I h
  refine Subscript_ (thn (he pins s σ H _ I h) fun v s1 ⟨x, H1, I1, r1, q1⟩ => ?_)
  refine wpAny_Slice (thn (hl pins s1 σ H1 _ I1 q1) fun vl s2 ⟨l, H2, I2, pl, q2⟩ => thn (hu pins s2 σ H2 _ I2 q2) fun vu s3 ⟨u, H3, I3, pu, q3⟩ => ?_)
  rw [evalPart_none]
  refine wpAny_pure ?_
  have I4 : Inv X pins σ H3 { s3 with heap := s3.heap.push { cls := .type "slice", data := .fields #[vl, vu, .none] } } := I3.kept (t' := s3.toks) fun b ob q => Heap.get?_push_of_some _ q
  obtain ⟨T, id, hT, ht, hg⟩ := hr pins { s3 with heap := s3.heap.push { cls := .type "slice", data := .fields #[vl, vu, .none] } } σ H3 x v vl vu l u s3.heap.objs.size Q I4 r1 (Heap.IsSliceOf.new ..) pl pu q3
  show wpAny (model X.prog X.w) X.A (subscriptTail e (.Slice lo hi none p2) v (.ref s3.heap.objs.size)) (EP X pins σ Q) X.xe { s3 with heap := s3.heap.push { cls := .type "slice", data := .fields #[vl, vu, .none] } }
  exact tail_any (ops := [.ref s3.heap.objs.size, v]) ht hT hg (by with_unfolding_all rfl)

def cutV (xs : List V) (lo hi : Option Int) : List V := (xs.drop (HT.sIx xs.length 0 lo)).take (HT.sIx xs.length xs.length hi - HT.sIx xs.length 0 lo)
theorem cutV_length (xs : List V) (lo hi : Option Int) : (cutV xs lo hi).length ≤ xs.length := by
  unfold cutV
  rw [List.length_take, List.length_drop]
  omega
def rSlT (K : PySem.W.Frag) : V → Option Int → Option Int → Hp → VK → Prop := fun x lo hi H Q => ∃ a xs, x = .ref a ∧ SqT K H a xs ∧
  ¬ (HT.sIx xs.length 0 lo = 0 ∧ HT.sIx xs.length xs.length hi = xs.length) ∧ ∀ p, H p = none → Q (.ref p) (upd H p (.tup (cutV xs lo hi)))
theorem sl_tup : SlR X (rSlT X.K) := by
  intro pins s σ H x v vl vu lo hi sl Q I rx hs pl pu h
  obtain ⟨a, xs, rfl, hx, hw, q⟩ := h
  cases rx
  obtain ⟨its, r, ht, hz⟩ := I.tuple hx
  have hlen : its.toArray.size = xs.length := by rw [List.size_toArray]; exact r.length.symm
  refine ⟨"tuple", _, PyProof.Rows.slot_tuple_getitem.lookup, ht.typeIs, ?_⟩
  refine HT.getItem_tuple_cut ht hs pl pu (by rw [hlen]; exact hw) ?_ (by rw [hlen]; exact hz)
  rw [hlen]
  refine ⟨.ref s.heap.objs.size, _, I.laid (t' := s.toks) (o := .tup (cutV xs lo hi)) (fun b ob q => Heap.get?_push_of_some _ q) (Nat.le_refl _) ?_, rfl, q _ (I.hok.fresh (Nat.le_refl _))⟩
  exact ⟨Nat.le_trans (cutV_length xs lo hi) hz, _, (r.drop (HT.sIx xs.length 0 lo)).take (HT.sIx xs.length xs.length hi - HT.sIx xs.length 0 lo), IsTupX.new _ _⟩

def rCatT (K : PySem.W.Frag) : R2 := fun x y H Q => ∃ a b xs ys, x = .ref a ∧ y = .ref b ∧ SqT K H a xs ∧ SqT K H b ys ∧ xs ≠ [] ∧ xs.length + ys.length ≤ sizeLine ∧
  (ys = [] → Q (.ref a) H) ∧ (ys ≠ [] → ∀ p, H p = none → Q (.ref p) (upd H p (.tup (xs ++ ys))))
theorem Vals.nil_iff {xs : List V} {us : List Value} (r : Vals xs us) : us = [] ↔ xs = [] := by
  cases r with
  | nil => simp
  | cons _ _ => simp
theorem op_catT : OpR X (binaryOp .Add) (rCatT X.K) := by
  intro pins s σ H x y v u Q I rx ry h
  obtain ⟨a, b, xs, ys, rfl, rfl, ha, hb, hx, hz, q1, q2⟩ := h
  cases rx
  cases ry
  obtain ⟨its, r1, p1, _⟩ := I.tuple ha
  obtain ⟨its2, r2, p2, _⟩ := I.tuple hb
  refine HT.cat_tup p1 p2 (fun z => hx (r1.nil_iff.mp z)) (fun z => ⟨.ref a, H, I, rfl, q1 (r2.nil_iff.mp z)⟩) (fun z => ?_) (by rw [← r1.length, ← r2.length]; exact hz)
  refine ⟨.ref s.heap.objs.size, _, I.laid (t' := s.toks) (o := .tup (xs ++ ys)) (fun b ob q => Heap.get?_push_of_some _ q) (Nat.le_refl _) ?_, rfl, q2 (fun w => z (r2.nil_iff.mpr w)) _ (I.hok.fresh (Nat.le_refl _))⟩
  exact ⟨by rw [List.length_append]; exact hz, _, r1.append r2, IsTupX.new _ _⟩
end
end L2
namespace L2
open PySem PySem.Spec PyProof.Rows
def ixN (n : Nat) (i : Int) : Option Nat := if 0 ≤ i then (if i < n then some i.toNat else none) else if -(n : Int) ≤ i then some (i + n).toNat else none
def atI {α : Type} (xs : List α) (i : Int) : Option α := (ixN xs.length i).bind fun j => xs[j]?
theorem ixN_seq {n : Nat} {i : Int} {j : Nat} (h : ixN n i = some j) : seqIndex? i n = some j ∧ j < n ∧ -(n : Int) ≤ i ∧ i < n := by
  unfold ixN at h
  by_cases h0 : 0 ≤ i
  · rw [if_pos h0] at h
    by_cases h1 : i < n
    · rw [if_pos h1] at h
      have e : i.toNat = j := Option.some.inj h
      exact ⟨by rw [seqIndex_of h0 h1, e], by omega, by omega, h1⟩
    · rw [if_neg h1] at h; cases h
  · rw [if_neg h0] at h
    by_cases h1 : -(n : Int) ≤ i
    · rw [if_pos h1] at h
      have e : (i + n).toNat = j := Option.some.inj h
      exact ⟨by rw [seqIndex_neg (by omega) h1, e], by omega, h1, by omega⟩
    · rw [if_neg h1] at h; cases h
theorem atI_get {α : Type} {xs : List α} {i : Int} {v : α} (h : atI xs i = some v) : ∃ j, seqIndex? i xs.length = some j ∧ xs[j]? = some v ∧ j < xs.length ∧ -(xs.length : Int) ≤ i ∧ i < xs.length := by
  unfold atI at h
  cases e : ixN xs.length i with
  | none => rw [e] at h; cases h
  | some j =>
    rw [e] at h
    obtain ⟨h1, h2, h3, h4⟩ := ixN_seq e
    exact ⟨j, h1, h, h2, h3, h4⟩
theorem atI_nat {α : Type} {xs : List α} {j : Nat} {v : α} (h : xs[j]? = some v) : atI xs (j : Int) = some v := by
  have hj : j < xs.length := (List.getElem?_eq_some_iff.mp h).1
  have e : ixN xs.length (j : Int) = some j := by
    unfold ixN
    rw [if_pos (by omega), if_pos (by omega)]; simp
  unfold atI; rw [e]; exact h
def PlainIx (b : Expr) : Prop := ∀ o i, subscripted b false o i = operate [o, i] (getItem o i)
def IxR (X : Cx) (r : R2) : Prop :=
  ∀ (value slice : Expr) (pins : List (Addr × Obj)) (s : Shared) (σ : St) (H : Hp) (x y : V) (v u : Value) (Q : VK), Inv X pins σ H s → RelV x v → RelV y u → r x y H Q →
    subscripted slice false v u = operate [v, u] (getItem v u) → wpAny (model X.prog X.w) X.A (subscriptTail value slice v u) (EP X pins σ Q) X.xe s
section
variable {X : Cx} {a b : Expr} {ta tb : TE} {pos : Pos}
theorem IxR.or {r r' : R2} (h : IxR X r) (h' : IxR X r') : IxR X (fun x y H Q => r x y H Q ∨ r' x y H Q) := by
  intro value slice pins s σ H x y v u Q I rx ry q hs
  rcases q with q | q
  · exact h value slice pins s σ H x y v u Q I rx ry q hs
  · exact h' value slice pins s σ H x y v u Q I rx ry q hs
theorem pe_ix {r : R2} (hr : IxR X r) (ha : PE X a ta) (hb : PE X b tb) (hs : PlainIx b) : PE X (.Subscript a b pos) (tOp r ta tb) := by
  intro pins s σ H Q I h
  exact Subscript_ (binT ha hb I h fun v u s2 x y H2 I2 rx ry q => hr a b pins s2 σ H2 x y v u Q I2 rx ry q (hs _ _))

def rIxL (K : PySem.W.Frag) : R2 := fun x y H Q => ∃ p xs i v, x = .ref p ∧ y = .int i ∧ SqL K H p xs ∧ atI xs i = some v ∧ Q v H
def rIxT (K : PySem.W.Frag) : R2 := fun x y H Q => ∃ p xs i v, x = .ref p ∧ y = .int i ∧ SqT K H p xs ∧ atI xs i = some v ∧ Q v H
def rIxS : R2 := fun x y H Q => ∃ z i c, x = .str z ∧ y = .int i ∧ z.length ≤ sizeLine ∧ atI z.cps.toList i = some c ∧ Q (.str ⟨#[c]⟩) H
theorem ix_list : IxR X (rIxL X.K) := by
  intro value slice pins s σ H x y v u Q I rx ry h hs
  obtain ⟨p, xs, i, z, rfl, rfl, hq, he, q⟩ := h
  cases rx
  obtain ⟨t, rfl⟩ := ry
  obtain ⟨its, r, pl, hz⟩ := I.list hq
  obtain ⟨j, h1, h2, h3, h4, h5⟩ := atI_get he
  obtain ⟨w, ew, rw'⟩ := r.get h2
  have hl := r.length
  have hn := line63
  have fin : EP X pins σ Q w s := ⟨z, H, I, rw', q⟩
  by_cases h0 : 0 ≤ i
  · have hj : i.toNat = j := by
      rw [seqIndex_of h0 h5] at h1
      exact Option.some.inj h1
    exact item_listR pl.isList h0 (by omega) (by rw [hj]; simpa using ew) fin hs
  · have hj : (i + (its.toArray.size : Int)).toNat = j := by
      rw [seqIndex_neg (by omega) h4] at h1
      rw [List.size_toArray, ← hl]
      exact Option.some.inj h1
    exact subscriptTail_builtinR (x := w) pl.isList.typeIs slot_list_getitem.lookup
      (wpAny_getItem_list_neg (Q := fun r s' => r = w ∧ EP X pins σ Q r s') pl.isList (by omega) (by rw [List.size_toArray] <;> omega) (by omega) (by rw [hj]; simpa using ew) ⟨rfl, fin⟩) hs
theorem ix_tup : IxR X (rIxT X.K) := by
  intro value slice pins s σ H x y v u Q I rx ry h hs
  obtain ⟨p, xs, i, z, rfl, rfl, hq, he, q⟩ := h
  cases rx
  obtain ⟨t, rfl⟩ := ry
  obtain ⟨its, r, pl, hz⟩ := I.tuple hq
  obtain ⟨j, h1, h2, h3, h4, h5⟩ := atI_get he
  obtain ⟨w, ew, rw'⟩ := r.get h2
  have hl := r.length
  have hn := line63
  have fin : EP X pins σ Q w s := ⟨z, H, I, rw', q⟩
  exact subscriptTail_builtinR (x := w) pl.typeIs slot_tuple_getitem.lookup
    (getItem_tuple (j := j) (Q := fun r s' => r = w ∧ EP X pins σ Q r s') pl (by omega) (by omega) (by rw [List.size_toArray, ← hl]; exact h1) (by simpa using ew) ⟨rfl, fin⟩) hs
theorem ix_str : IxR X rIxS := by
  intro value slice pins s σ H x y v u Q I rx ry h hs
  obtain ⟨z, i, c, rfl, rfl, hz, he, q⟩ := h
  obtain ⟨t, rfl⟩ := rx
  obtain ⟨t', rfl⟩ := ry
  obtain ⟨j, h1, h2, h3, h4, h5⟩ := atI_get he
  have hl : z.cps.toList.length = z.length := by simp [Str.length]
  rw [hl] at h1 h4 h5
  have hn := line63
  exact tail_any (typeIs_str s z t) slot_str_getitem.lookup (getItem_str (c := c) (by
    have e1 : decide (i < -(2 ^ 63 : Int)) = false := decide_eq_false (by omega)
    have e2 : decide (i ≥ 2 ^ 63) = false := decide_eq_false (by omega)
    rw [e1, e2, Bool.or_false]) (by rw [h1]; simpa using h2) ⟨.str ⟨#[c]⟩, H, I.tok _, ⟨_, rfl⟩, q⟩) hs
def rIx (K : PySem.W.Frag) : R2 := fun x y H Q => rIxL K x y H Q ∨ rIxT K x y H Q ∨ rIxS x y H Q
theorem ix_seq : IxR X (rIx X.K) := ix_list.or (ix_tup.or ix_str)

theorem mapSeq_set (its : List Value) (n j : Nat) (u : Value) : Obj.mapSeq (·.setIfInBounds j u) { cls := .type "list", data := .seq its.toArray n } = { cls := .type "list", data := .seq (its.set j u).toArray n } := by
  simp [Obj.mapSeq]
theorem Inv.lst {pins : List (Addr × Obj)} {σ : St} {H : Hp} {s : Shared} {p : Addr} {xs : List V} (I : Inv X pins σ H s) (h : H p = some (.lst xs)) :
    ∃ (its : List Value) (n : Nat), Vals xs its ∧ s.heap.get? p = some { cls := .type "list", data := .seq its.toArray n } ∧ xs.length ≤ sizeLine := by
  obtain ⟨z, its, n, r, e⟩ := I.hok p _ h
  exact ⟨its, n, r, e, z⟩
theorem Inv.lstUpd {pins : List (Addr × Obj)} {σ : St} {H : Hp} {s : Shared} {p : Addr} {xs ys : List V} {its its' : List Value} {n n' : Nat} {f : Obj → Obj} (I : Inv X pins σ H s) (h : H p = some (.lst xs))
    (ho : s.heap.get? p = some { cls := .type "list", data := .seq its.toArray n }) (hf : f { cls := .type "list", data := .seq its.toArray n } = { cls := .type "list", data := .seq its'.toArray n' }) (r : Vals ys its') (hz : ys.length ≤ sizeLine) (t : Nat) :
    Inv X pins σ (upd H p (.lst ys)) { s with heap := s.heap.update p f, toks := t } := by
  have e : (s.heap.update p f).get? p = some { cls := .type "list", data := .seq its'.toArray n' } := by
    rw [Heap.get?_update_self f ho (by rw [hf] <;> rfl), hf]
  refine I.write (x := p) (e := p) (by rw [h]; trivial) (.inl rfl) (fun b u hb q => (Heap.get?_update_other _ _ (Ne.symm hb)).trans q) ⟨_, e⟩ ?_
  exact ⟨hz, its', n', r, e⟩
def rSetL : V → V → V → Hp → (Hp → Prop) → Prop := fun o i v H Q => ∃ p xs k j, o = .ref p ∧ i = .int k ∧ H p = some (.lst xs) ∧ ixN xs.length k = some j ∧ Q (upd H p (.lst (xs.set j v)))
theorem set_list : PSet X rSetL := by
  intro pins s σ H o i v ov iv u Q I ro ri rv h
  obtain ⟨p, xs, k, j, rfl, rfl, hp, hj, q⟩ := h
  cases ro
  obtain ⟨t, rfl⟩ := ri
  obtain ⟨its, n, r, ho, hz⟩ := I.lst hp
  obtain ⟨h1, h2, h3, h4⟩ := ixN_seq hj
  have hl := r.length
  have hn := line63
  have I' : Inv X pins σ (upd H p (.lst (xs.set j v))) { s with heap := s.heap.update p (Obj.mapSeq (·.setIfInBounds j u)) } :=
    I.lstUpd hp ho (mapSeq_set its n j u) (r.set rv j) (by rw [List.length_set]; exact hz) s.toks
  by_cases h0 : 0 ≤ k
  · have hk : k.toNat = j := by
      rw [seqIndex_of h0 h4] at h1
      exact Option.some.inj h1
    exact PySem.W.ki_setAt ho h0 (by omega) (by rw [List.size_toArray, ← hl]; exact h4) (by rw [hk]; exact ⟨_, I', q⟩)
  · have hk : (k + (its.toArray.size : Int)).toNat = j := by
      rw [seqIndex_neg (by omega) h3] at h1
      rw [List.size_toArray, ← hl]
      exact Option.some.inj h1
    exact PySem.W.ki_setBack ho (by omega) (by rw [List.size_toArray, ← hl]; exact h3) (by omega) (by rw [hk]; exact ⟨_, I', q⟩)

theorem slice_bounds (lo hi : Option Int) (n : Nat) : (sliceBounds lo hi none n).1 = ((HT.sIx n 0 lo : Nat) : Int) ∧ (sliceBounds lo hi none n).2.1 = ((HT.sIx n n hi : Nat) : Int) ∧ (sliceBounds lo hi none n).2.2 = 1 := by
  refine ⟨?_, ?_, rfl⟩
  · cases lo with
    | none => simp [sliceBounds, HT.sIx]
    | some i =>
      simp only [sliceBounds, HT.sIx, Option.getD_none, show (1 : Int) > 0 by decide, if_true]
      by_cases h : i < 0
      · simp only [h, if_true] <;> omega
      · simp only [h, if_false] <;> omega
  · cases hi with
    | none => simp [sliceBounds, HT.sIx]
    | some i =>
      simp only [sliceBounds, HT.sIx, Option.getD_none, show (1 : Int) > 0 by decide, if_true]
      by_cases h : i < 0
      · simp only [h, if_true] <;> omega
      · simp only [h, if_false] <;> omega
theorem slicePick_cut (its : List Value) (lo hi : Option Int) : slicePick its.toArray lo hi none = ((its.drop (HT.sIx its.length 0 lo)).take (HT.sIx its.length its.length hi - HT.sIx its.length 0 lo)).toArray := by
  obtain ⟨h1, h2, h3⟩ := slice_bounds lo hi its.toArray.size
  unfold slicePick
  rw [h1, h2, h3]
  simp only [sliceRange_one, pick_run, List.size_toArray] <;> rfl
def rSlL (K : PySem.W.Frag) : V → Option Int → Option Int → Hp → VK → Prop := fun x lo hi H Q => ∃ a xs, x = .ref a ∧ SqL K H a xs ∧ ∀ p, H p = none → Q (.ref p) (upd H p (.lst (cutV xs lo hi)))
theorem sl_list : SlR X (rSlL X.K) := by
  intro pins s σ H x v vl vu lo hi sl Q I rx hs pl pu h
  obtain ⟨a, xs, rfl, hx, q⟩ := h
  cases rx
  obtain ⟨its, r, ht, hz⟩ := I.list hx
  have hlen := r.length
  refine ⟨"list", _, slot_list_getitem.lookup, ht.isList.typeIs, ?_⟩
  refine wpAny_getItem_list_slice ht.isList hs pl pu .none (by simp) ?_ (by rw [List.size_toArray] <;> omega)
  rw [slicePick_cut, ← hlen]
  refine ⟨.ref s.heap.objs.size, _, I.laid (t' := s.toks) (o := .lst (cutV xs lo hi)) (fun b ob q => Heap.get?_push_of_some _ q) (Nat.le_refl _) ?_, rfl, q _ (I.hok.fresh (Nat.le_refl _))⟩
  exact ⟨Nat.le_trans (cutV_length xs lo hi) hz, _, 0, (r.drop (HT.sIx xs.length 0 lo)).take (HT.sIx xs.length xs.length hi - HT.sIx xs.length 0 lo), Heap.get?_push_size _ rfl⟩

theorem op_notIn_str : OpR X (compareOp .NotIn) (fun x y H Q => ∃ i j, x = .str i ∧ y = .str j ∧ Q (.bl (!(!(Builtin.Str.occurrences j i 0 j.length 1).isEmpty))) H) := by
  intro pins s σ H x y v u Q I rx ry h
  obtain ⟨i, j, rfl, rfl, q⟩ := h
  obtain ⟨t, rfl⟩ := rx
  obtain ⟨t', rfl⟩ := ry
  exact notIn_str ⟨.bl _, H, I, rfl, q⟩

theorem call_len_seq : CallR X (.builtin "len") (fun xs H Q => ∃ p ys, xs = [.ref p] ∧ (SqL X.K H p ys ∨ SqT X.K H p ys) ∧ Q (.int ys.length) H) := by
  intro pins s σ H xs us Q I r h
  obtain ⟨p, ys, rfl, hq, q⟩ := h
  obtain ⟨u, rfl, rx⟩ := vals1 r
  cases rx
  have hn := line63
  rcases hq with hq | hq
  · obtain ⟨its, r', pl, hz⟩ := I.list hq
    have hlen := r'.length
    exact Calls.call_len_list pl.isList (by simp only [List.size_toArray] <;> omega) ⟨.int ys.length, H, I.tok _, ⟨s.toks + 1, by rw [List.size_toArray, hlen]⟩, q⟩
  · obtain ⟨its, r', pl, hz⟩ := I.tuple hq
    have hlen := r'.length
    exact len_tuple pl (by simp only [List.size_toArray] <;> omega) ⟨.int ys.length, H, I.tok _, ⟨s.toks + 1, by rw [List.size_toArray, hlen]⟩, q⟩
theorem call_len_str : CallR X (.builtin "len") (fun xs H Q => ∃ z, xs = [.str z] ∧ z.length ≤ sizeLine ∧ Q (.int z.length) H) := by
  intro pins s σ H xs us Q I r h
  obtain ⟨z, rfl, hz, q⟩ := h
  obtain ⟨u, rfl, t, rfl⟩ := vals1 r
  have hn := line63
  exact len_str (by omega) ⟨.int z.length, H, I.tok _, ⟨_, rfl⟩, q⟩
theorem call_tuple_of : CallR X (.type "tuple") (fun xs H Q => ∃ p ys, xs = [.ref p] ∧ ((SqL X.K H p ys ∧ ∀ l, H l = none → Q (.ref l) (upd H l (.tup ys))) ∨ (SqT X.K H p ys ∧ Q (.ref p) H))) := by
  intro pins s σ H xs us Q I r h
  obtain ⟨p, ys, rfl, h⟩ := h
  obtain ⟨u, rfl, rx⟩ := vals1 r
  cases rx
  rcases h with ⟨hq, q⟩ | ⟨hq, q⟩
  · obtain ⟨its, r', pl, hz⟩ := I.list hq
    have hlen := r'.length
    refine call_tuple_list pl.isList (fun h' kp => ?_) (by simp only [List.size_toArray] <;> omega)
    have I1 : Inv X pins σ H { s with heap := h' } := I.kept (t' := s.toks) kp
    have I2 : Inv X pins σ (upd H h'.objs.size (.tup ys)) { s with heap := h'.push { cls := .type "tuple", data := .seq its.toArray } } :=
      I1.laid (t' := s.toks) (fun b o e => Heap.get?_push_of_some _ e) (Nat.le_refl _) (show ObjOk X.prog X.w _ _ _ (.tup ys) from ⟨hz, its, r', IsTupX.new _ _⟩)
    exact ⟨.ref h'.objs.size, _, I2, rfl, q _ (I1.hok.fresh (Nat.le_refl _))⟩
  · obtain ⟨its, r', pl, hz⟩ := I.tuple hq
    exact call_tuple_same pl ⟨.ref p, H, I, rfl, q⟩

variable {o e : Expr} {es : List Expr} {to : TE} {t : TA} {name : Str} {apos cpos : Pos} {T id : String} {r : V → List V → Hp → VK → Prop}
end
end L2
namespace L2
open PySem PySem.Spec PyProof.Rows
def MtM (X : Cx) (id : String) (r : V → List V → Hp → VK → Prop) : Prop :=
  ∀ (pins : List (Addr × Obj)) (s : Shared) (σ : St) (H : Hp) (x : V) (xs : List V) (v : Value) (us : List Value) (Q : VK), Inv X pins σ H s → RelV x v → Vals xs us → r x xs H Q →
    wpAny (model X.prog X.w) X.A (call (.builtin id) (v :: us)) (EP X pins σ Q) X.xe s

theorem Vals.one : ∀ {x : V} {us : List Value}, Vals [x] us → ∃ u, us = [u] ∧ RelV x u
  | _, _, .cons r .nil => ⟨_, rfl, r⟩
theorem Vals.reverse {xs : List V} {us : List Value} (h : Vals xs us) : Vals xs.reverse us.reverse := by
  induction h with
  | nil => exact .nil
  | cons r t ih => rw [List.reverse_cons, List.reverse_cons]; exact Vals.append ih (.cons r .nil)
theorem Vals.rep {xs : List V} {us : List Value} (h : Vals xs us) : ∀ k : Nat, Vals (List.replicate k xs).flatten (List.replicate k us).flatten
  | 0 => .nil
  | k + 1 => by
    rw [List.replicate_succ, List.replicate_succ, List.flatten_cons, List.flatten_cons]
    exact Vals.append h (Vals.rep h k)
theorem foldl_rep (its : List Value) : ∀ (k : Nat) (acc : List Value),
    List.foldl (fun x1 x2 => x1 ++ x2) acc.toArray (List.replicate k its.toArray) = (acc ++ (List.replicate k its).flatten).toArray
  | 0, acc => by simp
  | k + 1, acc => by
    have e : acc.toArray ++ its.toArray = (acc ++ its).toArray := by simp
    have e2 : (acc ++ its) ++ (List.replicate k its).flatten = acc ++ (List.replicate (k + 1) its).flatten := by
      rw [List.replicate_succ, List.flatten_cons, List.append_assoc]
    rw [← e2, ← foldl_rep its k (acc ++ its), ← e, List.replicate_succ, List.foldl_cons]

section
variable {X : Cx} {pins : List (Addr × Obj)} {σ : St} {H : Hp} {s : Shared} {l b : Addr} {xs ys zs : List V}
theorem Inv.lset {its its' : List Value} {n : Nat} {f : Array Value → Array Value} {t' : Nat} (I : Inv X pins σ H s) (hH : H l = some (.lst xs))
    (e : s.heap.get? l = some { cls := .type "list", data := .seq its.toArray n }) (hf : f its.toArray = its'.toArray) (hv : Vals ys its') (hz : ys.length ≤ sizeLine) :
    Inv X pins σ (upd H l (.lst ys)) { s with heap := s.heap.update l (Obj.mapSeq f), toks := t' } := by
  have q := PySem.IsL.update e f
  rw [hf] at q
  refine I.write (x := l) (e := l) (by rw [hH]; exact trivial) (.inl rfl) (fun b' u hb hu => (Heap.get?_update_other s.heap (Obj.mapSeq f) (Ne.symm hb)).trans hu) ⟨_, q⟩ ?_
  exact ⟨hz, its', _, hv, q⟩
theorem Inv.lnew {its : List Value} {t' : Nat} (I : Inv X pins σ H s) (hv : Vals ys its) (hz : ys.length ≤ sizeLine) :
    Inv X pins σ (upd H s.heap.objs.size (.lst ys)) { s with heap := s.heap.push { cls := .type "list", data := .seq its.toArray }, toks := t' } :=
  I.laid (fun _ _ q => Heap.get?_push_of_some _ q) (Nat.le_refl _) ⟨hz, its, 0, hv, Heap.get?_push_size _ rfl⟩
theorem Inv.fresh (I : Inv X pins σ H s) : H s.heap.objs.size = none := I.hok.fresh (Nat.le_refl _)
theorem Inv.lstM (I : Inv X pins σ H s) (hH : H l = some (.lst xs)) : xs.length ≤ sizeLine ∧ ∃ (its : List Value) (n : Nat), Vals xs its ∧ xs.length = its.length ∧ s.heap.get? l = some { cls := .type "list", data := .seq its.toArray n } := by
  obtain ⟨z, its, n, r, e⟩ := I.hok l _ hH
  exact ⟨z, its, n, r, r.length, e⟩

theorem notLongL {n : Nat} (h : n ≤ sizeLine) : Builtin.List.listTooLong n = false := by
  unfold Builtin.List.listTooLong
  exact decide_eq_false (by omega)
end
section
variable {X : Cx}
def rAppend : V → List V → Hp → VK → Prop := fun x vs H Q => ∃ l xs y, x = .ref l ∧ vs = [y] ∧ H l = some (.lst xs) ∧ xs.length < sizeLine ∧ Q .non (upd H l (.lst (xs ++ [y])))
theorem mt_append : MtM X "list.append" rAppend := by
  intro pins s σ H x vs v us Q I rx rv h
  obtain ⟨l, xs, y, rfl, rfl, hH, hz, q⟩ := h
  cases rx
  obtain ⟨u, rfl, ru⟩ := rv.one
  obtain ⟨z, its, n, r, hl, e⟩ := I.lstM hH
  refine call_meets F.slot_list_append ⟨_, e, rfl⟩ F.entry_list_append (F.args_list_append_2 _ _) (PySem.list_append l its.toArray n u (by rw [List.size_toArray]; omega)) ⟨e, ?_⟩
  refine ⟨.non, _, I.lset (its' := its ++ [u]) hH e (by simp) (r.append (.cons ru .nil)) ?_, rfl, q⟩
  rw [List.length_append, List.length_singleton]
  omega

def rCat : R2 := fun x y H Q => ∃ l b xs zs, x = .ref l ∧ y = .ref b ∧ H l = some (.lst xs) ∧ H b = some (.lst zs) ∧ xs.length + zs.length ≤ sizeLine ∧ ∀ p, H p = none → Q (.ref p) (upd H p (.lst (xs ++ zs)))
theorem op_cat : OpR X (binaryOp .Add) rCat := by
  intro pins s σ H x y v u Q I rx ry h
  obtain ⟨l, b, xs, zs, rfl, rfl, hH, hB, hz, q⟩ := h
  cases rx
  cases ry
  obtain ⟨z, its, n, r, hl, e⟩ := I.lstM hH
  obtain ⟨z2, its2, n2, r2, hl2, e2⟩ := I.lstM hB
  refine PySem.P.add_list e e2 ?_ (by rw [List.size_toArray, List.size_toArray]; omega)
  have ea : its.toArray ++ its2.toArray = (its ++ its2).toArray := by simp
  rw [ea]
  exact ⟨.ref _, _, I.lnew (t' := s.toks) (r.append r2) (by rw [List.length_append]; omega), rfl, q _ I.fresh⟩
def rRep : R2 := fun x y H Q => ∃ l k xs, x = .ref l ∧ y = .int k ∧ H l = some (.lst xs) ∧ -(2 ^ 63) ≤ k ∧ k < 2 ^ 63 ∧ xs.length * k.toNat ≤ sizeLine ∧
  ∀ p, H p = none → Q (.ref p) (upd H p (.lst (List.replicate k.toNat xs).flatten))
theorem len_rep {α : Type} (xs : List α) (k : Nat) : (List.replicate k xs).flatten.length = k * xs.length := by
  induction k with
  | zero => simp
  | succ k ih => rw [List.replicate_succ, List.flatten_cons, List.length_append, ih, Nat.succ_mul, Nat.add_comm]
theorem op_rep : OpR X (binaryOp .Mult) rRep := by
  intro pins s σ H x y v u Q I rx ry h
  obtain ⟨l, k, xs, rfl, rfl, hH, h1, h2, hz, q⟩ := h
  cases rx
  obtain ⟨t, rfl⟩ := ry
  obtain ⟨z, its, n, r, hl, e⟩ := I.lstM hH
  have hlen : its.toArray.size * k.toNat ≤ sizeLine := by rw [List.size_toArray, ← hl]; exact hz
  have hcap : ¬ its.toArray.size * k.toNat > (2 ^ 63 - 1) / 8 := by
    have : (sizeLine : Nat) ≤ (2 ^ 63 - 1) / 8 := by decide
    omega
  have hfit : ¬ (!Builtin.List.listFitsIndex k) = true := by
    rw [fitsIndex_both h1 h2]
    exact Bool.false_ne_true
  have hlong : ¬ Builtin.List.listTooLong (its.toArray.size * k.toNat) = true := by
    rw [notLongL hlen]
    exact Bool.false_ne_true
  have hnew : List.foldl (fun x1 x2 => x1 ++ x2) #[] (List.replicate (if its.toArray.isEmpty = true then 0 else k.toNat) its.toArray) = (List.replicate k.toNat its).flatten.toArray := by
    have f0 : ∀ m : Nat, List.foldl (fun x1 x2 => x1 ++ x2) #[] (List.replicate m its.toArray) = (List.replicate m its).flatten.toArray := fun m => by
      have := foldl_rep its m []
      rw [List.nil_append] at this
      exact this
    rw [f0]
    cases its with
    | nil => simp
    | cons a r' => rw [if_neg (by simp)]
  refine wpAny_binaryOp_repeat_ref (T := "list") (U := "int") (by decide) ⟨_, e, rfl⟩ (fun s' => typeIs_int s' k t) noFill_list_mul F.fills_int_mul F.slot_int_rmul repeat_list F.slot_int_index.lookup
    (call_meets F.slot_int_rmul (typeIs_int s k t) F.entry_int_rmul (F.args_int_rmul_2 _ _) (int___rmul___int_list k t l its.toArray n)
      ⟨e, rfl, ⟨_, e, rfl⟩, call_meets F.slot_list_mul ⟨_, e, rfl⟩ F.entry_list_mul (F.args_list_mul_2 _ _) (AutoListH.list___mul___list_int_3 l its.toArray n k t hfit hcap hlong) ⟨e, ?_⟩⟩)
  rw [hnew]
  exact ⟨.ref _, _, I.lnew (t' := s.toks) (r.rep k.toNat) (by rw [len_rep, Nat.mul_comm]; exact hz), rfl, q _ I.fresh⟩

end
end L2
namespace Att
open PySem PySem.W PySem.Calls PyProof.Rows
theorem ints_of_wellAll {P : Params} {h : Heap} : ∀ (ns : List Int) (vs : List Value), WellAll P h vs (ns.map WData.int) → IntsAre vs ns := by
  intro ns
  induction ns with
  | nil =>
    intro vs w
    rw [List.map_nil] at w
    cases w
    exact .nil
  | cons n ns ih =>
    intro vs w
    rw [List.map_cons] at w
    cases w with
    | cons a b =>
      cases a
      exact .cons _ _ (ih _ b)

theorem script_of {l : OpenLaw} {n : Nat} (hn : l.most = some n) {P : Params} {h : Heap} {args : List WData} {vals : List Value}
    (hpre : l.row.toRowW.claim.pre args = true) (hwl : WellAll P h vals args) :
    ∃ a vs ns, vals = [Value.ref a] ∧ args = [WData.list (ns.map WData.int)] ∧ h.get? a = some { cls := .type "list", data := .seq vs.toArray } ∧ IntsAre vs ns ∧ ns.length ≤ n := by
  have hsh : WShape.hasAll [] args [.list .int] = true := (pre_splitW hpre).1
  have hc : l.pre.holds [] { args := args } = true := (pre_splitW hpre).2
  obtain ⟨d, r, rfl, h1, h2⟩ := hasAllW_cons hsh
  obtain rfl := hasAllW_nil h2
  obtain ⟨xs, rfl, h3⟩ := hasW_list h1
  obtain ⟨ns, rfl⟩ := items_int h3
  have hlen : ns.length ≤ n := by
    unfold OpenLaw.pre at hc
    have h4 : (WTm.not (.lt (.lit (.int (n : Int))) (.len (.arg 0)))).holds [] { args := [.list (ns.map .int)] } = true := by
      have h4 := (holds_andW hc).1
      rw [hn] at h4
      exact h4
    have h5 := condW_of h4 (w_not (w_lt w_lit (w_len_list (w_arg rfl))))
    rw [List.length_map] at h5
    refine Nat.le_of_not_lt fun q => ?_
    have q' : (n : Int) < ((ns.length : Nat) : Int) := by omega
    first
      | (rw [decide_eq_true q'] at h5; exact absurd h5 (by decide))
      | (simp at h5; omega)
  cases hwl with
  | cons w1 w2 =>
    cases w2
    cases w1 with
    | list ho hall => exact ⟨_, _, ns, rfl, rfl, ho, ints_of_wellAll ns _ hall, hlen⟩

theorem post_true (l : OpenLaw) (args : List WData) : l.row.toRowW.claim.post args (.bool true) args = true :=
  postW_of (r := l.row.toRowW) (X := (true == true))
    (show WShape.has [] (.bool true) .bool = true by first | rfl | decide | simp [WShape.has, WShape.arms, WShape.armsAll])
    (show (WTm.eq .res (.lit (.bool true))).value [] { args := args, res := some (.bool true), after := args } = some (.bool (true == true)) from w_eq_bool (w_res rfl) w_lit) rfl

theorem attach_call {l : OpenLaw} {n : Nat} {q : Program} {loose : List Str} {XP : (Str → Option Value) → Heap → Prop} {YP : World → Heap → Prop} {d : DefRec}
    (hn : l.most = some n) (hdf : d.params.defaults = [])
    (call : ∀ (w : World) (s₀ s₁ : Shared) (mg mb : Str → Option Value) (fa : Addr) (o : Obj) (pm cd doc : Value) (a : Addr) (vs : List Value) (ns : List Int),
      Ground q loose [] XP w s₀ mg mb s₁.heap → YP w s₁.heap →
      s₁.heap.get? fa = some o → o.data = .func (docDef d.name d.params d.body d.scope pm cd doc) → s₁.heap.CodeRec cd d.name → mg d.name = some (.ref fa) →
      s₁.heap.get? a = some { cls := .type "list", data := .seq vs.toArray } → IntsAre vs ns → ns.length ≤ n → s₁.gens = #[] →
      codeAny (model l.prog w) callerA (.call (.ref fa) ⟨[.ref a], []⟩) (fun r s' => r = .ok (.ret (.bool true)) ∧ OldK s₁.heap s'.heap ∧ s'.os = s₁.os ∧ AllBare s'.gens) s₁) :
    WalkO q loose XP YP l.row.toRowW d [] (fun f vs => PySem.call f vs) := by
  intro w s₀ s₁ mg mb G Y fa o pm cd doc dV kV ho hd hcd hD hmg hg args vals as hpre hlay hrd hwl hlo
  obtain rfl : dV = .none := Dflts.none hD hdf
  obtain rfl : kV = .none := Dflts.noKw hD
  obtain ⟨a, vs, ns, rfl, rfl, hobj, hints, hlen⟩ := script_of hn hpre hwl
  refine enter_call (codeAny_mono (call w s₀ s₁ mg mb fa o pm cd doc a vs ns G Y ho (fd_plain hd) hcd hmg hobj hints hlen hg) fun r s' hq => ?_)
  obtain ⟨rfl, h2, h3, h4⟩ := hq
  exact ⟨.inl ⟨.bool true, .bool true, [], rfl, fun _ => rfl, .bool true, post_true l _, fun _ => ⟨List.Pairwise.nil, fun _ hm => (nomatch hm)⟩⟩, h2, h3, h4⟩

end Att
namespace L2
open PySem PySem.Spec PyProof.Rows
theorem vals_ints : ∀ {vs : List Value} {ns : List Int}, IntsAre vs ns → Vals (ns.map V.int) vs
  | _, _, .nil => .nil
  | _, _, .cons n t h => .cons ⟨t, rfl⟩ (vals_ints h)

def Only (H : Hp) : Prop := ∀ b, H b = none ∨ ∃ o xs, H b = some (.frz o (.lst xs))

theorem law_call {P : Program} {w : World} {K : PySem.W.Frag} {mg mb : Str → Option Value} {CX : CXT} {k : Nat} {fa a : Addr} {fd : FuncData} {x : Str} {sp : Sp} {s₁ : Shared} {vs : List Value} {ns : List Int}
    (KX : K.In s₁.heap) (hns : s₁.heap.Ns mainGlobals mg) (hb : s₁.heap.Ns builtinsNs mb) (hbb : ∀ x : Str, x ≠ "__name__" → mb x = bootBuiltins x) (hlim : s₁.heap.NoLimit) (hg : s₁.gens = #[])
    (ha : s₁.heap.get? a = some { cls := .type "list", data := .seq vs.toArray }) (hi : IntsAre vs ns) (hl : ns.length ≤ sizeLine) (hr : Room k callerA)
    (F : ∀ base : Heap, K.In base → base.Ns mainGlobals mg → FnOk P w K mg base CX k fa fd [x] sp) (hbind : ∀ (s : Shared) (u : Value), BindsTo s fd ⟨[u], []⟩ [(x, u)])
    (hsp : ∀ H : Hp, Only H → SqL K H a (ns.map V.int) → sp [.ref a] H (fun v _ => v = .bl true) fun _ _ _ => False)
    (hCX : ∀ H e s', CX [] H s₁ (fun _ _ _ => False) e s' → False) :
    codeAny (model P w) callerA (.call (.ref fa) ⟨[.ref a], []⟩) (fun r s' => r = .ok (.ret (.bool true)) ∧ OldK s₁.heap s'.heap ∧ s'.os = s₁.os ∧ AllBare s'.gens) s₁ := by
  have rv := vals_ints hi
  have lenV := hi.length
  -- from an abstract heap in which nothing but the script may be tracked
  have core : ∀ H : Hp, Only H → SqL K H a (ns.map V.int) → HOk P w H s₁.heap → (∀ b, H b ≠ none → b = a) → (H a ≠ none → K.lookup a = none) →
      codeAny (model P w) callerA (.call (.ref fa) ⟨[.ref a], []⟩) (fun r s' => r = .ok (.ret (.bool true)) ∧ OldK s₁.heap s'.heap ∧ s'.os = s₁.os ∧ AllBare s'.gens) s₁ := by
    intro H hO hS hok hA hK
    have base_of : ∀ {b : Addr} {o : Obj}, s₁.heap.get? b = some o → H b = none → (hidT s₁.heap H).get? b = some o := fun e n => hidT_get e n
    have noA : ∀ {b : Addr} {o : Obj} {es : Array DictEntry} {ep : Nat}, s₁.heap.get? b = some o → o.data = .dict es ep → H b = none := fun {b o es ep} e d => by
      cases q : H b with
      | none => rfl
      | some u =>
        have e' : b = a := hA b (by rw [q]; simp)
        subst e'
        rw [ha] at e; cases e
        have d' : Data.seq vs.toArray _ = Data.dict es ep := d
        cases d'
    have nsK : ∀ {b : Addr} {m : Str → Option Value}, s₁.heap.Ns b m → (hidT s₁.heap H).Ns b m := fun {b m} ⟨o, es, ep, e, d, r⟩ => ⟨o, es, ep, base_of e (noA e d), d, r⟩
    have hKb : K.In (hidT s₁.heap H) := fun b o e => base_of (KX b o e) (by
      cases q : H b with
      | none => rfl
      | some u =>
        have e' : b = a := hA b (by rw [q]; simp)
        subst e'
        rw [hK (by rw [q]; simp)] at e; cases e)
    have hM : Mod K mg (hidT s₁.heap H) := ⟨hKb, nsK hns, ⟨mb, nsK hb, hbb⟩, let ⟨mc, h1, h2⟩ := hlim; ⟨mc, nsK h1, h2⟩⟩
    have e0 : Env0 P w K mg (hidT s₁.heap H) callerA [] s₁ H := ⟨rfl, hM, fun b o e => of_hidT e, Nat.le_of_eq (hidT_size _ _), trivial, fun b hb => absurd (show b ∈ ([] : List Addr) from hb) (by simp), hok, .of_eq hg⟩
    refine codeAny_mono ((F _ hKb (nsK hns)).run callerA [] s₁ H ⟨[.ref a], []⟩ [.ref a] [.ref a] _ _ hr e0 (hbind s₁ (.ref a)) (.cons rfl .nil) (hsp H hO hS)) fun r s' h => ?_
    cases r with
    | error e => exact (hCX H e s' h).elim
    | ok fl =>
      cases fl with
      | next => exact False.elim h
      | brk => exact False.elim h
      | cont => exact False.elim h
      | ret u =>
        obtain ⟨v, H', os, bare, un, hok', r', q⟩ := h
        have q' : v = .bl true := q
        subst q'
        obtain rfl : u = Value.bool true := r'
        refine ⟨rfl, OldK.of_keep fun b o e => ?_, os, bare⟩
        cases q : H b with
        | none => exact un.keep b o e q (by intro z; exact absurd (show b ∈ ([] : List Addr) from z) (by simp)) (by simp)
        | some u =>
          rcases hO b with z | ⟨ob, xs, z⟩
          · rw [q] at z; cases z
          · have z2 := un.frzs b ob _ z
            obtain ⟨e1, _⟩ := hok b _ z
            obtain ⟨e2, _⟩ := hok' b _ z2
            rw [e] at e1; cases e1
            exact e2
  cases hk : K.lookup a with
  | some o =>
    -- the script is one of the module's own objects
    have e := KX a o hk
    rw [ha] at e
    cases e
    refine core (fun _ => none) (fun _ => .inl rfl) (.inr ⟨_, vs.toArray, _, hk, rfl, rfl, rfl, by rw [List.size_toArray, lenV]; exact hl, by simpa using rv⟩) (fun b u z => by have z' : (none : Option HO) = some u := z; cases z') (fun b z => absurd rfl z) fun z => absurd rfl z
  | none =>
    refine core (fun b => if b = a then some (.frz { cls := .type "list", data := .seq vs.toArray } (.lst (ns.map V.int))) else none) (fun b => ?_) (.inl (.inr ⟨{ cls := .type "list", data := .seq vs.toArray }, if_pos rfl⟩)) (fun b u z => ?_) (fun b z => ?_) fun _ => hk
    · by_cases hb : b = a
      · exact .inr ⟨_, _, if_pos hb⟩
      · exact .inl (if_neg hb)
    · by_cases hb : b = a
      · have z' := (if_pos hb).symm.trans z
        cases z'
        subst hb
        exact ⟨ha, by rw [List.length_map]; exact hl, vs, _, rv, ha⟩
      · have z' := (if_neg hb).symm.trans z
        cases z'
    · by_cases hb : b = a
      · exact hb
      · exact absurd (if_neg hb) z
end L2
namespace L2
open PySem PySem.Spec PyProof.Rows
abbrev KOf {K : PySem.W.Frag} {h : Heap} (_ : K.In h) : PySem.W.Frag := K

theorem walk_of {l : PySem.W.OpenLaw} {n k : Nat} {q : Program} {loose : List Str} {XP : (Str → Option Value) → Heap → Prop} {YP : World → Heap → Prop} {d : DefRec} {K : Params → PySem.W.Frag} {CX : World → CXT} {sp : World → Sp} {x : Str}
    (hn : l.most = some n) (hn2 : n ≤ sizeLine) (hdf : d.params.defaults = []) (hr : Room k callerA)
    (hY : ∀ (w : World) (h : Heap), YP w h → (K w.params).In h)
    (F : ∀ (w : World) (mg : Str → Option Value) (fa : Addr) (h : Heap), (K w.params).In h → h.Ns mainGlobals mg → mg d.name = some (.ref fa) →
      ∃ fd : FuncData, (∀ (s : Shared) (u : Value), BindsTo s fd ⟨[u], []⟩ [(x, u)]) ∧
        ∀ base : Heap, (K w.params).In base → base.Ns mainGlobals mg → FnOk l.prog w (K w.params) mg base (CX w) k fa fd [x] (sp w))
    (hsp : ∀ (w : World) (H : Hp) (a : Addr) (ns : List Int), ns.length ≤ n → Only H → SqL (K w.params) H a (ns.map V.int) → sp w [.ref a] H (fun v _ => v = .bl true) fun _ _ _ => False)
    (hCX : ∀ (w : World) (H : Hp) (s : Shared) (e : Value) (s' : Shared), CX w [] H s (fun _ _ _ => False) e s' → False) :
    PySem.W.WalkO q loose XP YP l.row.toRowW d [] (fun f vs => PySem.call f vs) := by
  refine Att.attach_call hn hdf fun w s₀ s₁ mg mb fa o pm cd doc a vs ns G Y ho hd hcd hmg hobj hints hlen hg => ?_
  have KX := hY w _ Y
  obtain ⟨fd, hb, hF⟩ := F w mg fa _ KX G.T.g hmg
  exact law_call KX G.T.g G.T.b G.T.builtins G.T.nolimit hg hobj hints (Nat.le_trans hlen hn2) hr hF hb (fun H hO hS => hsp w H a ns hlen hO hS) fun H e s' => hCX w H s₁ e s'
theorem walk_ofK {l : PySem.W.OpenLaw} {n k : Nat} {q : Program} {loose : List Str} {XP : (Str → Option Value) → Heap → Prop} {YP : World → Heap → Prop} {d : DefRec} {K : Params → PySem.W.Frag} {CX : CXT} {sp : PySem.W.Frag → Sp} {x : Str}
    (hn : l.most = some n) (hn2 : n ≤ sizeLine) (hdf : d.params.defaults = []) (hr : Room k callerA)
    (hY : ∀ (w : World) (h : Heap), YP w h → (K w.params).In h)
    (F : ∀ (w : World) (mg : Str → Option Value) (fa : Addr) (h : Heap), (K w.params).In h → h.Ns mainGlobals mg → mg d.name = some (.ref fa) →
      ∃ fd : FuncData, (∀ (s : Shared) (u : Value), BindsTo s fd ⟨[u], []⟩ [(x, u)]) ∧
        ∀ base : Heap, (K w.params).In base → base.Ns mainGlobals mg → FnOk l.prog w (K w.params) mg base CX k fa fd [x] (sp (K w.params)))
    (hsp : ∀ (K : PySem.W.Frag) (H : Hp) (a : Addr) (ns : List Int), ns.length ≤ n → Only H → SqL K H a (ns.map V.int) → sp K [.ref a] H (fun v _ => v = .bl true) fun _ _ _ => False)
    (hCX : ∀ (H : Hp) (s : Shared) (e : Value) (s' : Shared), CX [] H s (fun _ _ _ => False) e s' → False) :
    PySem.W.WalkO q loose XP YP l.row.toRowW d [] (fun f vs => PySem.call f vs) :=
  walk_of (K := K) (CX := fun _ => CX) (sp := fun w => sp (K w.params)) hn hn2 hdf hr hY F (fun w H a ns h1 h2 h3 => hsp (K w.params) H a ns h1 h2 h3) fun _ H s e s' => hCX H s e s'
end L2
namespace L2
open PySem PySem.Spec PyProof.Rows
def defArgs (s : Stmt) : Arguments := match s with
  | .FunctionDef _ a _ _ _ _ _ _ _ _ => a
  | _ => { posonlyargs := [], args := [], vararg := none, kwonlyargs := [], kw_defaults := [], kwarg := none, defaults := [] }
def defBody (s : Stmt) : List Stmt := match s with
  | .FunctionDef _ _ b _ _ _ _ _ _ _ => b
  | _ => []
def defScope (s : Stmt) : Scope := match s with
  | .FunctionDef _ _ _ _ _ _ sc _ _ _ => sc
  | _ => { kind := .function, names := [], isGenerator := false, isCoroutine := false }

abbrev CX0 : CXT := fun _ _ _ _ _ _ => False
abbrev E0 : XK := fun _ _ _ => False
theorem pass0 {X : Cx} : Passes CX0 X E0 := fun _ _ _ _ _ _ _ h => h.elim

structure Fun (K : PySem.W.Frag) (x qual : Str) (st : Stmt) (f : Addr) (fd : FuncData) : Prop where
  ex : ∃ (oc : Value) (od : Option Addr) (kV doc pm : Value) (an : Option Addr) (cdv ct : Value) (osl : Array (Option Value)),
    fd = PySem.W.fnOf x qual (defArgs st) (defBody st) (defScope st) .none kV doc pm an cdv ct ∧ K.lookup f = some ⟨oc, od, .func fd, osl⟩ ∧ PySem.W.codeIn K cdv qual = true
  kp : PySem.W.keepIn K (.ref f) = true
section
variable {P : Program} {w : World} {K : PySem.W.Frag} {mg : Str → Option Value} {base : Heap}
theorem Fun.ok {x qual : Str} {st : Stmt} {f : Addr} {fd : FuncData} {N ps : List Str} {k : Nat} {sp : Sp} (F : Fun K x qual st f fd) (S : FnScope N ps (defScope st)) (len : ∀ vs H Q E, sp vs H Q E → vs.length = ps.length)
    (hbody : ∀ (cdv : Value) (A : Around) (outer : List Env) (s : Shared) (H : Hp) (vs : List V) (Q : VK) (E : XK), Room k (A.deeper (envOfC qual (defScope st) s.heap.objs.size f cdv)) → sp vs H Q E →
      ∃ t, PSs (cxOf CX0 P w K mg base N qual (defScope st) f cdv A outer s H E).nox (defBody st) t ∧ t { nx := fun _ H' => Q .non H', rt := Q } (start N vs) H) : FnOk P w K mg base CX0 (k + 1) f fd ps sp := by
  obtain ⟨oc, od, kV, doc, pm, an, cdv, ct, osl, rfl, lk, hcd⟩ := F.ex
  refine fn_of lk hcd S len fun A outer s H vs Q E hr hsp => ?_
  obtain ⟨t, h, q⟩ := hbody cdv A outer s H vs Q E hr hsp
  exact ⟨t, h.nox, q⟩
theorem Fun.binds {x qual : Str} {st : Stmt} {f : Addr} {fd : FuncData} {ps : List Str} (F : Fun K x qual st f fd)
    (h : ∀ (kV doc pm : Value) (an : Option Addr) (cdv ct : Value) (us : List Value), us.length = ps.length → bindArgs (PySem.W.fnOf x qual (defArgs st) (defBody st) (defScope st) .none kV doc pm an cdv ct) ⟨us, []⟩ = pure (ps.zip us)) : Binds K fd ps [] := by
  obtain ⟨oc, od, kV, doc, pm, an, cdv, ct, osl, rfl, lk, hcd⟩ := F.ex
  exact .all (h kV doc pm an cdv ct)
theorem fun_mk {x qual : Str} {st : Stmt} {f : Addr} {oc : Value} {od an : Option Addr} {osl : Array (Option Value)} {kV doc pm cdv ct : Value} (l : K.lookup f = some ⟨oc, od, .func (PySem.W.fnOf x qual (defArgs st) (defBody st) (defScope st) .none kV doc pm an cdv ct), osl⟩)
    (c : PySem.W.codeIn K cdv qual = true) (k : PySem.W.keepIn K (.ref f) = true) : Fun K x qual st f (PySem.W.fnOf x qual (defArgs st) (defBody st) (defScope st) .none kV doc pm an cdv ct) := ⟨⟨oc, od, kV, doc, pm, an, cdv, ct, osl, rfl, l, c⟩, k⟩
end
def Same (H H' : Hp) : Prop := ∀ b o, H b = some o → H' b = some o
theorem Same.refl (H : Hp) : Same H H := fun _ _ h => h
theorem Same.trans {H H1 H2 : Hp} (a : Same H H1) (b : Same H1 H2) : Same H H2 := fun c o h => b c o (a c o h)
end L2
namespace L2
open PySem PySem.Spec PyProof.Rows
def clOf (cells : List (Str × Addr)) : List (Str × NameKind) → List (Str × Addr) → List (Str × Addr)
  | [], acc => acc
  | (n, k) :: r, acc => if k == .free then clOf cells r ((n, (cells.lookup n).getD 0) :: acc) else clOf cells r acc

theorem clOf_run (env : Env) : ∀ (names : List (Str × NameKind)) (acc : List (Str × Addr)), (∀ y ∈ names, y.2 = .free → ∃ c, env.cells.lookup y.1 = some c) →
    (forIn names acc fun (x : Str × NameKind) (cs : List (Str × Addr)) =>
      match x with
      | (name, kind) => if (kind == .free) = true then (do let c ← cellOf env name; pure (ForInStep.yield ((name, c) :: cs))) else pure (ForInStep.yield cs)) = (pure (clOf env.cells names acc) : Sem _)
  | [], acc, _ => rfl
  | (n, k) :: r, acc, h => by
    rw [List.forIn_cons]
    by_cases hk : (k == NameKind.free) = true
    · obtain ⟨c, hc⟩ := h (n, k) List.mem_cons_self (eq_of_beq hk)
      have e : cellOf env n = pure c := by unfold cellOf; rw [show env.cells.lookup n = some c from hc]
      simp only [hk, if_true, e, clOf]
      rw [show env.cells.lookup n = some c from hc]
      simp only [pure_bind, Option.getD_some]
      exact clOf_run env r _ fun y hy => h y (List.mem_cons_of_mem _ hy)
    · simp only [hk, if_false, clOf, pure_bind]
      exact clOf_run env r _ fun y hy => h y (List.mem_cons_of_mem _ hy)
theorem closure_of {scope : Scope} {env : Env} (h : ∀ y ∈ scope.names, y.2 = .free → ∃ c, env.cells.lookup y.1 = some c) : closureFor scope env = pure (clOf env.cells scope.names []) := by
  have e := clOf_run env scope.names [] h
  simp only [closureFor]
  simp only [bind_pure_comp, map_pure] at e ⊢
  first | exact e | (rw [e]; rfl) | (simp only [e]; rfl)

theorem clOf_fwd {cells : List (Str × Addr)} {x : Str} {c : Addr} : ∀ {names : List (Str × NameKind)} {acc : List (Str × Addr)}, (∀ y ∈ names, y.2 = .free → ∃ c, cells.lookup y.1 = some c) → (∀ z, acc.lookup x = some z → cells.lookup x = some z) →
    (clOf cells names acc).lookup x = some c → cells.lookup x = some c
  | [], acc, _, ha, h => ha c h
  | (n, k) :: r, acc, hf, ha, h => by
    unfold clOf at h
    by_cases hk : (k == NameKind.free) = true
    · rw [if_pos hk] at h
      refine clOf_fwd (fun y hy => hf y (List.mem_cons_of_mem _ hy)) (fun z hz => ?_) h
      rw [List.lookup_cons] at hz
      split at hz
      · rename_i q
        have e : x = n := eq_of_beq q
        subst e
        obtain ⟨d, hd⟩ := hf (x, k) List.mem_cons_self (eq_of_beq hk)
        have hd' : cells.lookup x = some d := hd
        rw [hd'] at hz ⊢
        exact hz
      · exact ha z hz
    · rw [if_neg hk] at h
      exact clOf_fwd (fun y hy => hf y (List.mem_cons_of_mem _ hy)) ha h
theorem clOf_acc {cells : List (Str × Addr)} {x : Str} {c : Addr} (hc : cells.lookup x = some c) : ∀ {names : List (Str × NameKind)} {acc : List (Str × Addr)}, ((x, NameKind.free) ∈ names ∨ acc.lookup x = some c) →
    (clOf cells names acc).lookup x = some c
  | [], acc, h => by
    rcases h with h | h
    · cases h
    · exact h
  | (n, k) :: r, acc, h => by
    unfold clOf
    by_cases hk : (k == NameKind.free) = true
    · rw [if_pos hk]
      refine clOf_acc hc ?_
      by_cases hn : x = n
      · subst hn
        right
        rw [List.lookup_cons]
        simp [hc]
      · rcases h with h | h
        · rcases List.mem_cons.mp h with h | h
          · injection h with h1 _; exact absurd h1 hn
          · exact .inl h
        · right
          rw [List.lookup_cons]
          have : (x == n) = false := beq_eq_false_iff_ne.mpr hn
          rw [this]
          exact h
    · rw [if_neg hk]
      refine clOf_acc hc ?_
      rcases h with h | h
      · rcases List.mem_cons.mp h with h | h
        · injection h with _ h2; subst h2; exact absurd rfl hk
        · exact .inl h
      · exact .inr h
theorem relabel_free {env : Env} {x : Str} : ∀ {names : List (Str × NameKind)}, (∀ y ∈ names, y.2 ≠ .cell) →
    ((names.map fun (n, k) => if (k == NameKind.free && env.scope.kind == .function && env.kindOf n == some .cell) = true then (n, NameKind.cell) else (n, k)).lookup x = some .cell ∨
      (names.map fun (n, k) => if (k == NameKind.free && env.scope.kind == .function && env.kindOf n == some .cell) = true then (n, NameKind.cell) else (n, k)).lookup x = some .free) → (x, NameKind.free) ∈ names
  | [], _, h => by rcases h with h | h <;> cases h
  | (n, k) :: r, hn, h => by
    have ih := @relabel_free env x r fun y hy => hn y (List.mem_cons_of_mem _ hy)
    rw [List.map_cons] at h
    cases hx : x == n with
    | true =>
      have e : x = n := eq_of_beq hx
      subst e
      by_cases hc : (k == NameKind.free && env.scope.kind == .function && env.kindOf x == some .cell) = true
      · have hk : (k == NameKind.free) = true := by
          rw [Bool.and_eq_true, Bool.and_eq_true] at hc
          exact hc.1.1
        have hk' : k = .free := eq_of_beq hk
        subst hk'
        exact List.mem_cons_self
      · have hc' : (if (k == NameKind.free && env.scope.kind == .function && env.kindOf x == some .cell) = true then (x, NameKind.cell) else (x, k)) = (x, k) := if_neg hc
        simp only [hc', List.lookup_cons, beq_self_eq_true] at h
        have hk : k = .cell ∨ k = .free := by
          rcases h with h | h
          · exact .inl (Option.some.inj h)
          · exact .inr (Option.some.inj h)
        rcases hk with hk | hk
        · exact absurd hk (hn (x, k) List.mem_cons_self)
        · subst hk; exact List.mem_cons_self
    | false =>
      refine List.mem_cons_of_mem _ (ih ?_)
      by_cases hc : (k == NameKind.free && env.scope.kind == .function && env.kindOf n == some .cell) = true
      · have hc' : (if (k == NameKind.free && env.scope.kind == .function && env.kindOf n == some .cell) = true then (n, NameKind.cell) else (n, k)) = (n, NameKind.cell) := if_pos hc
        simp only [hc', List.lookup_cons, hx] at h
        exact h
      · have hc' : (if (k == NameKind.free && env.scope.kind == .function && env.kindOf n == some .cell) = true then (n, NameKind.cell) else (n, k)) = (n, k) := if_neg hc
        simp only [hc', List.lookup_cons, hx] at h
        exact h
theorem relabel_lookup_free {env : Env} {x : Str} : ∀ {names : List (Str × NameKind)}, names.lookup x = some .free →
    (names.map fun (n, k) => if (k == NameKind.free && env.scope.kind == .function && env.kindOf n == some .cell) = true then (n, NameKind.cell) else (n, k)).lookup x = some .cell ∨
      (names.map fun (n, k) => if (k == NameKind.free && env.scope.kind == .function && env.kindOf n == some .cell) = true then (n, NameKind.cell) else (n, k)).lookup x = some .free
  | [], h => by cases h
  | (n, k) :: r, h => by
    have ih := @relabel_lookup_free env x r
    rw [List.map_cons]
    rw [List.lookup_cons] at h
    cases hx : x == n with
    | true =>
      rw [hx] at h
      have hk : k = .free := Option.some.inj h
      subst hk
      by_cases hc : (NameKind.free == NameKind.free && env.scope.kind == .function && env.kindOf n == some .cell) = true
      · have hc' : (if (NameKind.free == NameKind.free && env.scope.kind == .function && env.kindOf n == some .cell) = true then (n, NameKind.cell) else (n, NameKind.free)) = (n, NameKind.cell) := if_pos hc
        simp only [hc', List.lookup_cons, hx]
        exact .inl trivial
      · have hc' : (if (NameKind.free == NameKind.free && env.scope.kind == .function && env.kindOf n == some .cell) = true then (n, NameKind.cell) else (n, NameKind.free)) = (n, NameKind.free) := if_neg hc
        simp only [hc', List.lookup_cons, hx]
        exact .inr trivial
    | false =>
      rw [hx] at h
      have q := ih h
      by_cases hc : (k == NameKind.free && env.scope.kind == .function && env.kindOf n == some .cell) = true
      · have hc' : (if (k == NameKind.free && env.scope.kind == .function && env.kindOf n == some .cell) = true then (n, NameKind.cell) else (n, k)) = (n, NameKind.cell) := if_pos hc
        simp only [hc', List.lookup_cons, hx]
        exact q
      · have hc' : (if (k == NameKind.free && env.scope.kind == .function && env.kindOf n == some .cell) = true then (n, NameKind.cell) else (n, k)) = (n, k) := if_neg hc
        simp only [hc', List.lookup_cons, hx]
        exact q
theorem mem_of_lookup_free {x : Str} {k : NameKind} : ∀ {names : List (Str × NameKind)}, names.lookup x = some k → (x, k) ∈ names := fun h => PySem.mem_of_lookup h

def Cx.comp (X : Cx) (scope : Scope) (cl : List (Str × Addr)) (C : Addr) (s₀ : Shared) (H₀ : Hp) (fp : List Addr) (N' : List Str) : Cx :=
  { prog := X.prog, w := X.w, K := X.K, mg := X.mg, base := X.base, A := X.A, N := N', s₀ := s₀, H₀ := H₀, env := compEnvC scope cl C X.env, outer := X.stack, stack := X.stack, ex := fp, fn := fun _ => false, calm := X.calm, pn := [], xe := fun _ _ => False }

structure CompScope (X : Cx) (N' : List Str) (ix : List (Option Nat)) (scope : Scope) : Prop where
  kind : scope.kind = .function
  nocell : ∀ y ∈ scope.names, y.2 ≠ .cell
  names : ∀ y ∈ scope.names, y.2 = .local → scope.names.lookup y.1 = some .local
  free : ∀ y ∈ scope.names, y.2 = .free → X.env.kindOf y.1 = some .cell ∨ X.env.kindOf y.1 = some .free
  len : ix.length = N'.length
  ixok : ∀ (i j : Nat) (x : Str), ix[i]? = some (some j) → N'[i]? = some x → X.N[j]? = some x ∧ scope.names.lookup x = some .free

def tau (ix : List (Option Nat)) (σ : St) : St := ix.map fun o => match o with | none => none | some j => (σ[j]?).join

def tComp (ix : List (Option Nat)) (wi : TI) (g : TG) (tt : TT) (te : TE) : TE := fun σ H Q =>
  wi σ H fun J H1 => ∀ D, H1 D = none →
    ∃ W : Nat → Nat → List V → Hp → Prop, (∃ m, W 0 m [] (upd H1 D (.lst []))) ∧
    ∀ i m acc H2, W i m acc H2 → H2 D = some (.lst acc) →
      (J.stop i H2 ∧ Q (.ref D) H2) ∨
      (J.go i H2 ∧ acc.length < sizeLine ∧ ∀ x H3, J.yld i H2 x H3 → g x (tau ix σ) H3 fun τ H4 => (τ.length = ix.length ∧ ∀ (k : Nat) v, (tau ix σ)[k]? = some (some v) → τ[k]? = some (some v)) ∧
        tt τ H4 fun b H5 => if b = true then te τ H5 fun y H6 => H6 D = some (.lst acc) ∧ ∃ m', m' < m ∧ W (i + 1) m' (acc ++ [y]) (upd H6 D (.lst (acc ++ [y])))
          else H5 D = some (.lst acc) ∧ ∃ m', m' < m ∧ W (i + 1) m' acc H5)

def PTs (X : Cx) (ifs : List Expr) (t : TT) : Prop :=
  ∀ (pins : List (Addr × Obj)) (s : Shared) (σ : St) (H : Hp) (Q : Bool → Hp → Prop), Inv X pins σ H s → t σ H Q →
    wpAny (model X.prog X.w) X.A (forIn ifs true fun c r => if r = true then do let ok ← isTrue c X.env (eval c X.env); pure (ForInStep.yield ok) else pure (ForInStep.yield r)) (TP X pins σ Q) X.xe s
def tTrue : TT := fun _ H Q => Q true H
theorem pts_nil {X : Cx} : PTs X [] tTrue := fun pins s σ H Q I h => wpAny_tests_nil ⟨H, I, h⟩
theorem pts_one {X : Cx} {c : Expr} {t : TT} (h : PT X c t) : PTs X [c] t := fun pins s σ H Q I hw => wpAny_tests_one (h pins s σ H Q I hw)

section
variable {prog : Program} {w : World} {A : Around} {R : Result → Shared → Prop} {s : Shared}
theorem compLoop_any {elt target iter : Expr} {ifs : List Expr} {scope : Scope} {pos : Pos} {it acc : Value} {env : Env} (I : Nat → Shared → Prop)
    (turn : ∀ n s, I n s → wpAny (model prog w) A (pyNext it) (fun r s₁ => match r with
      | none => R (.ok .next) s₁
      | some v => wpAny (model prog w) A (letOwnedTupleGo target it v) (fun _ s₁' => wpAny (model prog w) A (assign target env v) (fun _ s₂ =>
          wpAny (model prog w) A (forIn ifs true fun c r => if r = true then do let ok ← isTrue c env (eval c env); pure (ForInStep.yield ok) else pure (ForInStep.yield r)) (fun ok s₃ =>
            if ok = true then wpAny (model prog w) A (eval elt env) (fun x s₄ =>
              wpAny (model prog w) A (call (.builtin "list.append") [acc, x]) (fun _ s₅ => ∃ m, m < n ∧ I m s₅) (fun _ _ => False) s₄) (fun _ _ => False) s₃
            else ∃ m, m < n ∧ I m s₃) (fun _ _ => False) s₂) (fun _ _ => False) s₁') (fun _ _ => False) s₁) (fun _ _ => False) s)
    (n : Nat) (h : I n s) :
    codeAny (model prog w) A (.compLoop (.ListComp elt [⟨target, iter, ifs, 0⟩] scope pos) 0 it acc env) R s := by
  refine codeAny_loop rfl I (fun n s hI => ?_) n h
  show wpAny _ A ((compTurn (.ListComp elt [⟨target, iter, ifs, 0⟩] scope pos) 0 it acc env).onRaise (fun x => do noteFrame x env; theTreesLotGoes x)) _ _ s
  refine wpAny_noted ?_
  rw [compTurn_list]
  refine wpAny_bind (wpAny_standAt (wpAny_bind (wpAny_mono (turn n s hI) (fun r s₁ h₁ => ?_) fun _ _ h' => h'.elim)))
  cases r with
  | none => exact wpAny_pure h₁
  | some v =>
    refine wpAny_bind (wpAny_mono h₁ (fun _ s₁' h₁' => ?_) fun _ _ h' => h'.elim)
    refine wpAny_bind (wpAny_mono h₁' (fun _ s₂ h₂ => wpAny_bind (wpAny_mono h₂ (fun ok s₃ h₃ => ?_) fun _ _ h' => h'.elim)) fun _ _ h' => h'.elim)
    cases ok with
    | false => exact wpAny_pure ⟨rfl, h₃⟩
    | true =>
      exact wpAny_bind (wpAny_bind (wpAny_mono h₃ (fun x s₄ h₄ => wpAny_bind (wpAny_mono h₄ (fun _ s₅ h₅ => wpAny_pure (wpAny_pure ⟨rfl, h₅⟩)) fun _ _ h' => h'.elim)) fun _ _ h' => h'.elim))
end
section
variable {X : Cx}
theorem comp_start {pins : List (Addr × Obj)} {σ : St} {H1 : Hp} {s2 : Shared} {N' : List Str} {ix : List (Option Nat)} {scope : Scope} {fp : List Addr} {h₁ : Heap}
    (S : CompScope X N' ix scope) (I : Inv X pins σ H1 s2) (f2 : ∀ b ∈ fp, FpOk X pins H1 b) (hfp : ∀ b ∈ fp, b < s2.heap.objs.size)
    (hns : h₁.Ns (s2.heap.objs.size + 1) (fun x => ([] : List (Str × Value)).reverse.lookup x))
    (hsb : Heap.SameBut (s2.heap.objs.size + 1) ((s2.heap.push { cls := .type "list", dict := none, data := .seq ([] : List Value).toArray }).push { cls := .type "dict", data := .dict #[] }) h₁) (tk : Nat) :
    Inv (X.comp scope (clOf X.env.cells scope.names []) (s2.heap.objs.size + 1) { s2 with heap := s2.heap.push { cls := .type "list", dict := none, data := .seq ([] : List Value).toArray } } (upd H1 s2.heap.objs.size (.lst [])) fp N') [] (tau ix σ)
      (upd H1 s2.heap.objs.size (.lst [])) { s2 with heap := h₁, toks := tk } := by
  have hfr : ∀ y ∈ scope.names, y.2 = .free → ∃ c, X.env.cells.lookup y.1 = some c := fun y hy e => I.ok.has _ (S.free y hy e)
  have fwd : ∀ x c, (clOf X.env.cells scope.names []).lookup x = some c → X.env.cells.lookup x = some c := fun x c h => clOf_fwd hfr (fun z hz => by cases hz) h
  have I3 : Inv X pins σ (upd H1 s2.heap.objs.size (.lst [])) { s2 with heap := s2.heap.push { cls := .type "list", dict := none, data := .seq ([] : List Value).toArray } } := I.lnew (t' := s2.toks) (ys := []) .nil (Nat.zero_le _)
  have sz3 : (s2.heap.push { cls := .type "list", dict := none, data := .seq ([] : List Value).toArray }).objs.size = s2.heap.objs.size + 1 := Heap.size_push ..
  have old : ∀ b o, (s2.heap.push { cls := .type "list", dict := none, data := .seq ([] : List Value).toArray }).get? b = some o → h₁.get? b = some o := fun b o e =>
    hsb.extBut b o (by have := Heap.lt_size e; rw [sz3] at this; exact Nat.ne_of_lt this) (Heap.get?_push_of_some _ e)
  have ncell : ∀ x c, X.env.cells.lookup x = some c → c < s2.heap.objs.size := fun x c e => by
    obtain ⟨v, z⟩ := I.cell x c e
    exact z.lt
  refine ⟨⟨I.ok.mod, ?_, I.ok.glob, I.ok.blt, ?_, fun x y c h1 h2 => I.ok.inj x y c (fwd x c h1) (fwd y c h2), fun x hx => ?_, fun _ _ h => (nomatch h), I.ok.hd, I.ok.frames, .inl rfl, fun b hb => ⟨?_, fun x c e => ?_⟩, fun b o e => I3.bs b o e, ?_, fun b o e hb => ?_, fun b hb => ?_, I3.stack, I3.stkFree⟩,
    rfl, I.bare, Un.kept old, ⟨_, hns, fun i x v h1 h2 h3 => ?_⟩, fun x c e => ?_, ?_, fun x c e => ?_, fun p hp => absurd (show p ∈ ([] : List (Addr × Obj)) from hp) (by simp), I3.hok.kept old, ?_⟩
  · show (relabel scope X.env).kind = .function
    exact S.kind
  · show (s2.heap.push { cls := .type "list", dict := none, data := .seq ([] : List Value).toArray }).objs.size ≤ s2.heap.objs.size + 1
    rw [sz3]; exact Nat.le_refl _
  · have hx' : (x, NameKind.free) ∈ scope.names := relabel_free (env := X.env) S.nocell hx
    obtain ⟨c, hc⟩ := hfr _ hx' rfl
    exact ⟨c, clOf_acc hc (.inl hx')⟩
  · show b ≠ s2.heap.objs.size + 1
    exact Nat.ne_of_lt (Nat.lt_succ_of_lt (hfp b hb))
  · exact (f2 b hb).2.2.2.2.1 x c (fwd x c e)
  · show X.base.objs.size ≤ (s2.heap.push { cls := .type "list", dict := none, data := .seq ([] : List Value).toArray }).objs.size
    rw [sz3]
    exact Nat.le_succ_of_le (Nat.le_trans I.ok.bsz I.sz)
  · rcases (f2 b hb).2.2.2.1 with z | z
    · exact I.ok.noex b o e z
    · exact absurd (Nat.lt_of_lt_of_le (Heap.lt_size e) (Nat.le_trans I.ok.bsz z)) (Nat.lt_irrefl _)
  · intro hm
    rcases List.mem_cons.mp (I.stkSub b hm) with z | z
    · exact (f2 b hb).2.1 z
    · exact (f2 b hb).2.2.1 z
  · have hi : ∃ j, ix[i]? = some (some j) ∧ σ[j]? = some (some v) := by
      unfold tau at h2
      rw [List.getElem?_map] at h2
      cases e : ix[i]? with
      | none => rw [e] at h2; cases h2
      | some o =>
        rw [e] at h2
        cases o with
        | none => cases h2
        | some j =>
          refine ⟨j, rfl, ?_⟩
          have h2' : (σ[j]?).join = some v := Option.some.inj h2
          cases e2 : σ[j]? with
          | none => rw [e2] at h2'; cases h2'
          | some q => rw [e2] at h2'; exact congrArg some h2'
    obtain ⟨j, hj, hσ⟩ := hi
    obtain ⟨hN, hfree⟩ := S.ixok i j x hj h1
    have hmem : (x, NameKind.free) ∈ scope.names := mem_of_lookup_free hfree
    have hk := S.free _ hmem rfl
    obtain ⟨m, hn, hl⟩ := I3.loc
    obtain ⟨u, r, l⟩ := hl j x v hN hσ (by rcases hk with k | k; exact .inr (.inl k); exact .inr (.inr k))
    refine ⟨u, r, ?_⟩
    rcases l with ⟨k, _⟩ | ⟨_, c, hc, z⟩
    · rcases hk with q | q
      · rw [show X.env.kindOf x = some .cell from q] at k; cases k
      · rw [show X.env.kindOf x = some .free from q] at k; cases k
    · refine .inr ⟨?_, c, clOf_acc hc (.inl hmem), z.keeps old⟩
      exact relabel_lookup_free (env := X.env) hfree
  · obtain ⟨v, z⟩ := I3.cell x c (fwd x c e)
    exact ⟨v, z.keeps old⟩
  · show (upd H1 s2.heap.objs.size (.lst [])) (s2.heap.objs.size + 1) = none
    rw [upd_ne (Nat.succ_ne_self _)]
    exact I.hok.fresh (Nat.le_succ _)
  · exact I3.freeC x c (fwd x c e)
  · show (tau ix σ).length = N'.length
    unfold tau
    rw [List.length_map]
    exact S.len

theorem comp_block {pins : List (Addr × Obj)} {σ : St} {H1 : Hp} {s2 : Shared} {N' : List Str} {ix : List (Option Nat)} {scope : Scope} {fp : List Addr} {it : Addr} {tn : Nat → Heap → Prop} {J : It}
    {elt tg iter : Expr} {ifs : List Expr} {pos : Pos} {g : TG} {tt : TT} {te : TE} {Q : VK} {RR : Value → Addr → Result → Shared → Prop}
    (S : CompScope X N' ix scope) (hcalm : X.calm = true) (I : Inv X pins σ H1 s2) (T : Turn X.prog X.w X.K tg J fp it tn) (st : tn 0 s2.heap) (f2 : ∀ b ∈ fp, FpOk X pins H1 b)
    (hg : ∀ C s₀ H₀, PG (X.comp scope (clOf X.env.cells scope.names []) C s₀ H₀ fp N') tg g)
    (ht : ∀ C s₀ H₀, PTs (X.comp scope (clOf X.env.cells scope.names []) C s₀ H₀ fp N') ifs tt)
    (he : ∀ C s₀ H₀, PE (X.comp scope (clOf X.env.cells scope.names []) C s₀ H₀ fp N') elt te)
    (h : ∀ D, H1 D = none →
      ∃ W : Nat → Nat → List V → Hp → Prop, (∃ m, W 0 m [] (upd H1 D (.lst []))) ∧
      ∀ i m acc H2, W i m acc H2 → H2 D = some (.lst acc) →
        (J.stop i H2 ∧ Q (.ref D) H2) ∨
        (J.go i H2 ∧ acc.length < sizeLine ∧ ∀ x H3, J.yld i H2 x H3 → g x (tau ix σ) H3 fun τ H4 => (τ.length = ix.length ∧ ∀ (k : Nat) v, (tau ix σ)[k]? = some (some v) → τ[k]? = some (some v)) ∧
          tt τ H4 fun b H5 => if b = true then te τ H5 fun y H6 => H6 D = some (.lst acc) ∧ ∃ m', m' < m ∧ W (i + 1) m' (acc ++ [y]) (upd H6 D (.lst (acc ++ [y])))
            else H5 D = some (.lst acc) ∧ ∃ m', m' < m ∧ W (i + 1) m' acc H5))
    (hRR : ∀ D C s' H', Inv X pins σ H' s' → Q (.ref D) H' → (∃ m, s'.heap.Ns C m) → H' C = none → C ≠ X.env.locals → X.s₀.heap.objs.size ≤ C → (∀ x c, X.env.cells.lookup x = some c → c ≠ C) → (∀ p ∈ X.pn ++ pins, p.1 ≠ C) → RR (.ref D) C (.ok .next) s') :
    wpAny (model X.prog X.w) X.A (newList []) (fun acc s₃ => wpAny (model X.prog X.w) X.A (newFunctionEnv scope X.env.globals (clOf X.env.cells scope.names []) [] X.env.qual none .none (some X.env)) (fun cenv s₄ =>
      codeAny (model X.prog X.w) X.A (.compStart (.ListComp elt [⟨tg, iter, ifs, 0⟩] scope pos) 0 (.ref it) acc { cenv with scope := relabel scope X.env }) (RR acc cenv.locals) s₄) X.xe s₃) X.xe s2 := by
  have hfp : ∀ b ∈ fp, b < s2.heap.objs.size := fun b hb => by
    obtain ⟨o, e, _⟩ := T.obj _ _ st b hb
    exact Heap.lt_size e
  refine wpAny_newObj_type (wpAny_newFunctionEnv S.nocell (by intro y hy; simp at hy) (fun h₁ hns₁ hsb₁ => ?_) S.kind)
  have sz3 : (s2.heap.push { cls := .type "list", dict := none, data := .seq ([] : List Value).toArray }).objs.size = s2.heap.objs.size + 1 := Heap.size_push ..
  dsimp only at hns₁ hsb₁ ⊢
  rw [sz3] at hns₁ hsb₁ ⊢
  obtain ⟨W, ⟨m0, w0⟩, turn⟩ := h s2.heap.objs.size (I.hok.fresh (Nat.le_refl _))
  have I4 := comp_start (N' := N') (ix := ix) (fp := fp) S I f2 hfp hns₁ hsb₁ (s2.toks + ([] : List (Str × Value)).length)
  generalize hX' : X.comp scope (clOf X.env.cells scope.names []) (s2.heap.objs.size + 1) { s2 with heap := s2.heap.push { cls := .type "list", dict := none, data := .seq ([] : List Value).toArray } } (upd H1 s2.heap.objs.size (.lst [])) fp N' = X' at I4
  have old : ∀ b o, s2.heap.get? b = some o → h₁.get? b = some o := fun b o e =>
    hsb₁.extBut b o (Nat.ne_of_lt (Nat.lt_succ_of_lt (Heap.lt_size e))) (Heap.get?_push_of_some _ (Heap.get?_push_of_some _ e))
  have st4 : tn 0 h₁ := T.keep _ _ _ st fun b _ o e => old b o e
  have n4 : ∀ b ∈ fp, (upd H1 s2.heap.objs.size (.lst [])) b = none := fun b hb => by rw [upd_ne (Nat.ne_of_lt (hfp b hb))]; exact (f2 b hb).1
  have stat : ∀ {H' : Hp}, (∀ b ∈ fp, H' b = none) → ∀ b ∈ fp, FpOk X' [] H' b := fun {H'} hn b hb => by
    subst hX'
    refine ⟨hn b hb, Nat.ne_of_lt (Nat.lt_succ_of_lt (hfp b hb)), fun hm => ?_, .inl hb, fun x c e => ?_, fun p hp => absurd (show p ∈ ([] : List (Addr × Obj)) from hp) (by simp)⟩
    · rcases List.mem_cons.mp (I.stkSub b hm) with z | z
      · exact (f2 b hb).2.1 z
      · exact (f2 b hb).2.2.1 z
    · exact (f2 b hb).2.2.2.2.1 x c (clOf_fwd (fun y hy e => I.ok.has _ (S.free y hy e)) (fun z hz => by cases hz) e)
  have loop : ∀ s₄ : Shared, s₄ = { s2 with heap := h₁, toks := s2.toks + ([] : List (Str × Value)).length } →
      codeAny (model X.prog X.w) X.A (.compLoop (.ListComp elt [⟨tg, iter, ifs, 0⟩] scope pos) 0 (.ref it) (.ref s2.heap.objs.size) (compEnvC scope (clOf X.env.cells scope.names []) (s2.heap.objs.size + 1) X.env)) (RR (.ref s2.heap.objs.size) (s2.heap.objs.size + 1)) s₄ := by
    rintro s₄ rfl
    refine compLoop_any (fun n s' => ∃ i acc H', Inv X' [] (tau ix σ) H' s' ∧ tn i s'.heap ∧ (∀ b ∈ fp, H' b = none) ∧ H' s2.heap.objs.size = some (.lst acc) ∧ W i n acc H') ?_ m0
      ⟨0, [], _, I4, st4, n4, upd_same, w0⟩
    rintro n s5 ⟨i, acc, H5, I5, st5, fr5, hD5, w5⟩
    have pE : X'.prog = X.prog := by subst hX'; rfl
    have wE : X'.w = X.w := by subst hX'; rfl
    have kE : X'.K = X.K := by subst hX'; rfl
    have aE : X'.A = X.A := by subst hX'; rfl
    have cE : X'.calm = true := by subst hX'; exact hcalm
    rcases turn i n acc H5 w5 hD5 with ⟨stop, q⟩ | ⟨go, hz, step⟩
    · have z := T.done X' pE wE kE cE i [] s5 (tau ix σ) H5 (fun _ _ => False) I5 (stat fr5) st5 stop
      rw [aE] at z
      refine thn z fun r s6 ⟨hr, I6⟩ => ?_
      subst hr
      have I6' := I6
      subst hX'
      have bs6 := I6.base
      have un : Un (frs X.stack) fp H1 H5 s2.heap s6.heap := Un.trans (Un.laid (o := .lst []) (fun b u q => Heap.get?_push_of_some _ q) (Nat.le_refl _) (I.hok.fresh (Nat.le_refl _))) bs6
      have IX : Inv X pins σ H5 s6 := Inv.call' I I6.os un I6.hok I6.bare fun b hb => ⟨(f2 b hb).2.2.2.1, (f2 b hb).2.1, (f2 b hb).2.2.2.2.1, (f2 b hb).2.2.2.2.2⟩
      refine hRR _ _ s6 H5 IX q ?_ I6.free ?_ ?_ ?_ ?_
      · obtain ⟨m, hn, _⟩ := I6.loc
        exact ⟨m, hn⟩
      · exact Nat.ne_of_gt (Nat.lt_succ_of_lt I.lt)
      · exact Nat.le_succ_of_le I.sz
      · intro x c e
        obtain ⟨v, z⟩ := I.cell x c e
        exact Nat.ne_of_lt (Nat.lt_succ_of_lt z.lt)
      · intro p hp
        exact Nat.ne_of_lt (Nat.lt_succ_of_lt (Heap.lt_size (I.pin p hp).1))
    · have z := T.item X' pE wE kE cE i [] s5 (tau ix σ) H5 (fun _ _ => False) I5 (stat fr5) st5 go
      rw [aE] at z
      refine thn z fun r s6 ⟨u, hr, h6⟩ => ?_
      subst hr
      refine thn h6 fun _ s7 ⟨x, H7, I7, r7, y7, st7, fr7⟩ => ?_
      have I7' := I7.pinned (stat fr7) (T.obj _ _ st7)
      have hg' := hg (s2.heap.objs.size + 1) { s2 with heap := s2.heap.push { cls := .type "list", dict := none, data := .seq ([] : List Value).toArray } } (upd H1 s2.heap.objs.size (.lst []))
      have ht' := ht (s2.heap.objs.size + 1) { s2 with heap := s2.heap.push { cls := .type "list", dict := none, data := .seq ([] : List Value).toArray } } (upd H1 s2.heap.objs.size (.lst []))
      have he' := he (s2.heap.objs.size + 1) { s2 with heap := s2.heap.push { cls := .type "list", dict := none, data := .seq ([] : List Value).toArray } } (upd H1 s2.heap.objs.size (.lst []))
      subst hX'
      have back : ∀ {τ : St} {H8 : Hp} {s8 : Shared}, (τ.length = ix.length ∧ ∀ (k : Nat) v, (tau ix σ)[k]? = some (some v) → τ[k]? = some (some v)) →
          Inv (X.comp scope (clOf X.env.cells scope.names []) (s2.heap.objs.size + 1) { s2 with heap := s2.heap.push { cls := .type "list", dict := none, data := .seq ([] : List Value).toArray } } (upd H1 s2.heap.objs.size (.lst [])) fp N') ([] ++ pinsAt fp s7.heap) τ H8 s8 →
          ∀ {acc' : List V} {m' : Nat}, H8 s2.heap.objs.size = some (.lst acc') → W (i + 1) m' acc' H8 → m' < n →
          ∃ m, m < n ∧ ∃ i acc H', Inv (X.comp scope (clOf X.env.cells scope.names []) (s2.heap.objs.size + 1) { s2 with heap := s2.heap.push { cls := .type "list", dict := none, data := .seq ([] : List Value).toArray } } (upd H1 s2.heap.objs.size (.lst [])) fp N') [] (tau ix σ) H' s8 ∧ tn i s8.heap ∧ (∀ b ∈ fp, H' b = none) ∧ H' s2.heap.objs.size = some (.lst acc) ∧ W i m acc H' := fun {τ H8 s8} hτ I8 {acc' m'} hD8 w8 hm => by
        refine ⟨m', hm, i + 1, acc', H8, (Inv.unpinned I8).weak (by rw [hτ.1]; unfold tau; rw [List.length_map]) hτ.2, T.keep _ _ _ st7 fun b hb o e => (I8.pin (b, o) (List.mem_append_right _ (List.mem_append_right _ (mem_pinsAt hb e)))).1, fun b hb => ?_, hD8, w8⟩
        obtain ⟨o, e, d⟩ := T.obj _ _ st7 b hb
        exact (I8.pin (b, o) (List.mem_append_right _ (List.mem_append_right _ (mem_pinsAt hb e)))).2.1
      refine thn (hg' _ s7 (tau ix σ) H7 x u _ I7' r7 (step x H7 y7)) fun _ s8 ⟨τ, H8, I8, hτ, q8⟩ => ?_
      refine thn (ht' _ s8 τ H8 _ I8 q8) fun b s9 ⟨H9, I9, q9⟩ => ?_
      cases b with
      | false =>
        obtain ⟨hD9, m', hm, w9⟩ := q9
        exact back hτ I9 hD9 w9 hm
      | true =>
        refine thn (he' _ s9 τ H9 _ I9 q9) fun yv s10 ⟨y, H10, I10, r10, hD10, m', hm, w10⟩ => ?_
        refine thn (mt_append _ s10 τ H10 (.ref s2.heap.objs.size) [y] (.ref s2.heap.objs.size) [yv] (fun v H => v = .non ∧ H = upd H10 s2.heap.objs.size (.lst (acc ++ [y]))) I10 rfl (.cons r10 .nil) ⟨_, acc, y, rfl, rfl, hD10, hz, rfl, rfl⟩) fun _ s11 ⟨v, H11, I11, r11, hv, hH⟩ => ?_
        subst hH
        exact back hτ I11 upd_same w10 hm
  exact codeAny_compStart_list (loop _ rfl) (T.self _ 0 _ _ _ st4 (loop _ rfl))

theorem pe_comp {elt tg iter : Expr} {ifs : List Expr} {scope : Scope} {pos : Pos} {N' : List Str} {ix : List (Option Nat)} {wi : TI} {g : TG} {tt : TT} {te : TE}
    (S : CompScope X N' ix scope) (hcalm : X.calm = true) (hi : PI X tg iter wi)
    (hg : ∀ C s₀ H₀ fp, PG (X.comp scope (clOf X.env.cells scope.names []) C s₀ H₀ fp N') tg g)
    (ht : ∀ C s₀ H₀ fp, PTs (X.comp scope (clOf X.env.cells scope.names []) C s₀ H₀ fp N') ifs tt)
    (he : ∀ C s₀ H₀ fp, PE (X.comp scope (clOf X.env.cells scope.names []) C s₀ H₀ fp N') elt te)
    (hs : ∀ x, foldedSetIterable iter X.env x = pure x := by intro _; rfl) :
    PE X (.ListComp elt [⟨tg, iter, ifs, 0⟩] scope pos) (tComp ix wi g tt te) := by
  intro pins s σ H Q I h
  rw [eval_ListComp]
  refine wpAny_comprehension_free (use := none) rfl hs (closure_of fun y hy e => I.ok.has _ (S.free y hy e)) S.kind S.names (thn (hi pins s σ H _ I h) fun v s1 h1 => thn h1 fun itv s2 h2 => ?_)
  obtain ⟨it, fp, tn, J, H2, e, I2, T, st2, f2, hW⟩ := h2
  subst e
  refine comp_block (RR := fun acc C => compPost (model X.prog X.w) X.A X.xe none (EP X pins σ Q) acc C) S hcalm I2 T st2 f2 (fun C s₀ H₀ => hg C s₀ H₀ fp) (fun C s₀ H₀ => ht C s₀ H₀ fp) (fun C s₀ H₀ => he C s₀ H₀ fp) hW ?_
  intro D C s' H' I' q hn hC hL h1 h2 h3
  obtain ⟨m, hn⟩ := hn
  refine ⟨m, hn, fun h' hs' => ?_⟩
  have I'' : Inv X pins σ H' { s' with heap := h' } := I'.turned (t' := s'.toks) (fun b o hb e => hs'.extBut b o hb e) hC hL.symm.symm (.inr h1) h2 h3
  exact ⟨.ref D, H', I'', rfl, q⟩

theorem ps_setC {elt tg iter : Expr} {ifs : List Expr} {scope : Scope} {pos pos' spos : Pos} {N' : List Str} {ix : List (Option Nat)} {wi : TI} {g : TG} {tt : TT} {te : TE} {k : Nat} {x : Str}
    (hN : X.N.Nodup) (hk : X.N[k]? = some x) (hx : X.env.scope.names.lookup x = some .local)
    (S : CompScope X N' ix scope) (hcalm : X.calm = true) (hi : PI X tg iter wi)
    (hg : ∀ C s₀ H₀ fp, PG (X.comp scope (clOf X.env.cells scope.names []) C s₀ H₀ fp N') tg g)
    (ht : ∀ C s₀ H₀ fp, PTs (X.comp scope (clOf X.env.cells scope.names []) C s₀ H₀ fp N') ifs tt)
    (he : ∀ C s₀ H₀ fp, PE (X.comp scope (clOf X.env.cells scope.names []) C s₀ H₀ fp N') elt te)
    (hsw : swapsWith (.ListComp elt [⟨tg, iter, ifs, 0⟩] scope pos) (some (.Name x pos')) spos.line X.env = pure true)
    (hs : ∀ x, foldedSetIterable iter X.env x = pure x := by intro _; rfl) :
    PS X (.Assign [.Name x pos'] (.ListComp elt [⟨tg, iter, ifs, 0⟩] scope pos) spos) (tAsg (tComp ix wi g tt te) (gName k)) := by
  intro pins s σ H D I h
  rw [exec_Assign_Name_used _ _ _ _ hsw]
  refine wpAny_bind (wpAny_standAt (wpAny_bind ?_))
  show wpAny _ _ (do let _ ← comprehension (.ListComp elt [⟨tg, iter, ifs, 0⟩] scope pos) scope X.env _ (newList []) false (eval iter X.env) (some (assign (.Name x pos') X.env))) _ _ s
  refine wpAny_bind (wpAny_mono (wpAny_comprehension_free (use := some (assign (.Name x pos') X.env)) (Q := fun _ s' => SP X pins D .next s') rfl hs (closure_of fun y hy e => I.ok.has _ (S.free y hy e)) S.kind S.names
    (thn (hi pins s σ H _ I h) fun v s1 h1 => thn h1 fun itv s2 h2 => ?_)) (fun _ s' hq => wpAny_pure (wpAny_pure hq)) fun _ _ e => e)
  obtain ⟨it, fp, tn, J, H2, e, I2, T, st2, f2, hW⟩ := h2
  subst e
  refine comp_block (RR := fun acc C => compPost (model X.prog X.w) X.A X.xe (some (assign (.Name x pos') X.env)) (fun _ s' => SP X pins D .next s') acc C) (Q := fun x H1 => gName k x σ H1 D.nx) S hcalm I2 T st2 f2 (fun C s₀ H₀ => hg C s₀ H₀ fp) (fun C s₀ H₀ => ht C s₀ H₀ fp) (fun C s₀ H₀ => he C s₀ H₀ fp) hW ?_
  intro Dd C s' H' I' q hn hC hL h1 h2 h3
  obtain ⟨m, hn⟩ := hn
  show wpAny _ _ (assign (.Name x pos') X.env (.ref Dd)) _ _ _
  refine wpAny_assign_Name (store_ok2 I' hN hk (.inl hx) (v := .ref Dd) rfl (fun s'' I'' hsame => ?_) (.inr hx))
  obtain ⟨a, hsb, ha⟩ := hsame
  have haC : C ≠ a := by
    rcases ha with z | z
    · rw [z]; exact hL
    · exact fun e => h2 x a z e.symm
  refine ⟨m, hn.sameBut hsb haC, fun h' hs' => ?_⟩
  have I3 : Inv X pins (σ.set k (some (.ref Dd))) H' { s'' with heap := h' } := I''.turned (t' := s''.toks) (fun b o hb e => hs'.extBut b o hb e) hC hL (.inr h1) h2 h3
  exact ⟨_, H', I3, q⟩
end
end L2
namespace L2
open PySem PySem.Spec PyProof.Rows
section
variable {X : Cx} {a b : Expr} {ta tb : TE} {pos : Pos}
theorem op_le_str : OpR X (compareOp .LtE) (fun x y H Q => ∃ i j, x = .str i ∧ y = .str j ∧ Q (.bl (!decide (j.cps.toList < i.cps.toList))) H) := by
  intro pins s σ H x y v u Q I rx ry h
  obtain ⟨i, j, rfl, rfl, q⟩ := h
  obtain ⟨t, rfl⟩ := rx
  obtain ⟨t', rfl⟩ := ry
  exact PySem.P.le_str ⟨.bl _, H, I, rfl, q⟩
theorem op_gt_str : OpR X (compareOp .Gt) (fun x y H Q => ∃ i j, x = .str i ∧ y = .str j ∧ Q (.bl (decide (j.cps.toList < i.cps.toList))) H) := by
  intro pins s σ H x y v u Q I rx ry h
  obtain ⟨i, j, rfl, rfl, q⟩ := h
  obtain ⟨t, rfl⟩ := rx
  obtain ⟨t', rfl⟩ := ry
  exact PySem.P.gt_str ⟨.bl _, H, I, rfl, q⟩
theorem op_ge_str : OpR X (compareOp .GtE) (fun x y H Q => ∃ i j, x = .str i ∧ y = .str j ∧ Q (.bl (!decide (i.cps.toList < j.cps.toList))) H) := by
  intro pins s σ H x y v u Q I rx ry h
  obtain ⟨i, j, rfl, rfl, q⟩ := h
  obtain ⟨t, rfl⟩ := rx
  obtain ⟨t', rfl⟩ := ry
  exact PySem.P.ge_str ⟨.bl _, H, I, rfl, q⟩
theorem op_is_bl : OpR X (compareOp .Is) (fun x y H Q => ∃ i j, x = .bl i ∧ y = .bl j ∧ Q (.bl (i == j)) H) := by
  intro pins s σ H x y v u Q I rx ry h
  obtain ⟨i, j, rfl, rfl, q⟩ := h
  cases rx
  cases ry
  exact is_bool ⟨.bl _, H, I, rfl, q⟩
theorem op_mul_str : OpR X (binaryOp .Mult) (fun x y H Q => ∃ i j, x = .str i ∧ y = .int j ∧ (i.length ≤ 16 ∧ 0 ≤ j ∧ j ≤ 1000) ∧ Q (.str (Txt.mul i j)) H) := by
  intro pins s σ H x y v u Q I rx ry h
  obtain ⟨i, j, rfl, rfl, ⟨h1, h2, h3⟩, q⟩ := h
  obtain ⟨t, rfl⟩ := rx
  obtain ⟨t', rfl⟩ := ry
  exact SB.mul (mulOk_of 16 1000 h1 (by omega) (by omega) (by decide) (by decide)) fun t' k => ⟨.str _, H, I.tok _, ⟨_, rfl⟩, q⟩

theorem range_all {n : Nat} {bs : List Bool} (hn : bs.length = n) : (List.range n).all (fun i => bs.getD i true) = bs.all id := by
  subst hn
  rw [Bool.eq_iff_iff, List.all_eq_true, List.all_eq_true]
  constructor
  · intro h x hx
    obtain ⟨i, hi, rfl⟩ := List.mem_iff_getElem.mp hx
    have := h i (List.mem_range.mpr hi)
    simpa [List.getD_eq_getElem?_getD, hi] using this
  · intro h i hi
    have hi' := List.mem_range.mp hi
    have := h _ (List.getElem_mem hi')
    simpa [List.getD_eq_getElem?_getD, hi'] using this
theorem vals_bl {bs : List Bool} : ∀ {us : List Value}, Vals (bs.map V.bl) us → us = bs.map Value.bool := by
  induction bs with
  | nil => intro us r; cases r; rfl
  | cons b bs ih => intro us r; cases r with | cons r1 r2 => rw [ih r2, show _ = Value.bool b from r1]; rfl
theorem call_all (hc : X.calm = true) : CallR X (.builtin "all") (fun xs H Q => ∃ (p : Addr) (bs : List Bool), xs = [.ref p] ∧ H p = some (.lst (bs.map V.bl)) ∧ Q (.bl (bs.all id)) H) := by
  intro pins s σ H xs us Q I r h
  obtain ⟨p, bs, e, hp, q⟩ := h
  subst e
  obtain ⟨u, rfl, ru⟩ := vals1 r
  obtain rfl : u = Value.ref p := ru
  obtain ⟨z, its, n, rv, hl, ho⟩ := I.lstM hp
  have ei := vals_bl rv
  have hI : s.heap.IsList p its.toArray := ⟨_, ho, rfl, n, rfl⟩
  have hne : p ≠ s.heap.objs.size := Nat.ne_of_lt (Heap.lt_size ho)
  refine call_all_walk (wpAny_pyIter_list hI ?_)
  refine ⟨s.heap.objs.size, _, _, _, _, _, fun i => bs.getD i true, rfl, Walks.list (A := X.A.in1) (I.ok.hd hc) s.heap.objs.size p hne its.toArray, ⟨⟨_, Heap.get?_push_size _ rfl, rfl, rfl⟩, ⟨_, Heap.get?_push_of_some _ ho, rfl, n, rfl⟩⟩, ?_, fun h' tk hk => ?_⟩
  · intro i v s' Q' E' hP hQ
    have hP' : its[i]? = some v := by simpa using hP
    rw [ei, List.getElem?_map] at hP'
    cases e : bs[i]? with
    | none => rw [e] at hP'; cases hP'
    | some b' =>
      rw [e] at hP'
      have ev : Value.bool b' = v := Option.some.inj hP'
      subst ev
      refine wpAny_truthy_bool ?_
      have : bs.getD i true = b' := by simp [List.getD_eq_getElem?_getD, e]
      dsimp only at hQ
      rw [this] at hQ
      exact hQ
  · rw [range_all (by rw [List.size_toArray, ei, List.length_map])]
    refine ⟨.bl _, H, ?_, rfl, q⟩
    exact I.kept (h' := h') (t' := tk) fun b o e => hk b o (by simp; exact Nat.ne_of_lt (Heap.lt_size e)) (Heap.get?_push_of_some _ e)
def Its (x : Str) : It := ⟨fun i _ => i < x.cps.size, fun i H v H' => H' = H ∧ ∃ c, x.cps[i]? = some c ∧ v = .str ⟨#[c]⟩, fun i _ => x.cps.size ≤ i⟩
def iStr (tl : TE) : TI := fun σ H R => tl σ H fun x H1 => ∃ z, x = .str z ∧ R (Its z) H1

theorem turn_strA {P : Program} {w : World} {K : PySem.W.Frag} {tg : Expr} (it : Addr) (x : Str) (t : Tok) : Turn P w K tg (Its x) [it] it (fun i h => h.IsStrIter it "str_ascii_iterator" x t i) where
  mem := by simp
  obj := fun i h st b hb => by
    have e : b = it := by simpa using hb
    subst e
    obtain ⟨o, e, c, d⟩ := st
    exact ⟨o, e, fun v z => by rw [d] at z; cases z⟩
  keep := fun i h h' st k => by obtain ⟨o, e, r⟩ := st; exact ⟨o, k it (by simp) o e, r⟩
  item := by
    intro X hP hw hK hc i pins s σ H E I hf st hg
    subst hP hw hK
    have hg' : i < x.cps.size := hg
    obtain ⟨f0, f1, f2, f3, f4, f5⟩ := hf it (by simp)
    refine wpAny_pyNext_ascii_item st (c := x.cps[i]) (by simp [hg']) fun h' st' sb => ?_
    have I1 : Inv X pins σ H { s with heap := h', toks := s.toks + 1 } := I.turned (fun b o hb e => (sb.2 b hb).trans e) f0 f1 f3 f4 f5
    refine ⟨_, rfl, ?_⟩
    have fin : ∃ y H', Inv X pins σ H' { s with heap := h', toks := s.toks + 1 } ∧ RelV y (.str ⟨#[x.cps[i]]⟩ s.toks) ∧ (Its x).yld i H y H' ∧ h'.IsStrIter it "str_ascii_iterator" x t (i + 1) ∧ ∀ b ∈ [it], H' b = none :=
      ⟨.str ⟨#[x.cps[i]]⟩, H, I1, ⟨_, rfl⟩, ⟨rfl, x.cps[i], by simp [hg'], rfl⟩, st', fun b hb => (hf b hb).1⟩
    unfold letOwnedTupleGo
    cases tg <;> exact wpAny_pure fin
  done := by
    intro X hP hw hK hc i pins s σ H E I hf st hg
    subst hP hw hK
    have hg' : x.cps.size ≤ i := hg
    obtain ⟨f0, f1, f2, f3, f4, f5⟩ := hf it (by simp)
    exact wpAny_pyNext_ascii_end (I.ok.hd hc) st (by simp [hg']) fun h' eb => ⟨rfl, I.turned (t' := s.toks) (fun b o hb e => eb b o hb e) f0 f1 f3 f4 f5⟩
  self := fun _ _ _ _ _ st h => wpAny_pyIter_striter_ascii st h
theorem turn_strW {P : Program} {w : World} {K : PySem.W.Frag} {tg : Expr} (it : Addr) (x : Str) (t : Tok) : Turn P w K tg (Its x) [it] it (fun i h => h.IsStrIter it "str_iterator" x t i) where
  mem := by simp
  obj := fun i h st b hb => by
    have e : b = it := by simpa using hb
    subst e
    obtain ⟨o, e, c, d⟩ := st
    exact ⟨o, e, fun v z => by rw [d] at z; cases z⟩
  keep := fun i h h' st k => by obtain ⟨o, e, r⟩ := st; exact ⟨o, k it (by simp) o e, r⟩
  item := by
    intro X hP hw hK hc i pins s σ H E I hf st hg
    subst hP hw hK
    have hg' : i < x.cps.size := hg
    obtain ⟨f0, f1, f2, f3, f4, f5⟩ := hf it (by simp)
    refine wpAny_pyNext_wide_item st (c := x.cps[i]) (by simp [hg']) fun h' st' sb => ?_
    have I1 : Inv X pins σ H { s with heap := h', toks := s.toks + 1 } := I.turned (fun b o hb e => (sb.2 b hb).trans e) f0 f1 f3 f4 f5
    refine ⟨_, rfl, ?_⟩
    have fin : ∃ y H', Inv X pins σ H' { s with heap := h', toks := s.toks + 1 } ∧ RelV y (.str ⟨#[x.cps[i]]⟩ s.toks) ∧ (Its x).yld i H y H' ∧ h'.IsStrIter it "str_iterator" x t (i + 1) ∧ ∀ b ∈ [it], H' b = none :=
      ⟨.str ⟨#[x.cps[i]]⟩, H, I1, ⟨_, rfl⟩, ⟨rfl, x.cps[i], by simp [hg'], rfl⟩, st', fun b hb => (hf b hb).1⟩
    unfold letOwnedTupleGo
    cases tg <;> exact wpAny_pure fin
  done := by
    intro X hP hw hK hc i pins s σ H E I hf st hg
    subst hP hw hK
    have hg' : x.cps.size ≤ i := hg
    obtain ⟨f0, f1, f2, f3, f4, f5⟩ := hf it (by simp)
    exact wpAny_pyNext_wide_end (I.ok.hd hc) st (by simp [hg']) fun h' eb => ⟨rfl, I.turned (t' := s.toks) (fun b o hb e => eb b o hb e) f0 f1 f3 f4 f5⟩
  self := fun _ _ _ _ _ st h => wpAny_pyIter_striter_wide st h
theorem pi_str {l tg : Expr} {tl : TE} (hl : PE X l tl) : PI X tg l (iStr tl) := by
  intro pins s σ H R I h
  refine thn (hl pins s σ H _ I h) fun v s1 ⟨x, H1, I1, r1, q1⟩ => ?_
  obtain ⟨z, e, q⟩ := q1
  subst e
  obtain ⟨t, rfl⟩ := r1
  have fp : ∀ b ∈ [s1.heap.objs.size], FpOk X pins H1 b := fun b hb => by
    have e : b = s1.heap.objs.size := by simpa using hb
    rw [e]
    exact I1.fpOk (Nat.le_refl _) (I1.hok.fresh (Nat.le_refl _))
  cases ha : z.cps.all (· < 128)
  · exact wpAny_pyIter_wide ha ⟨s1.heap.objs.size, [s1.heap.objs.size], _, Its z, H1, rfl, I1.kept (t' := s1.toks) fun b o e => Heap.get?_push_of_some _ e, turn_strW _ z t, ⟨_, Heap.get?_push_size _ rfl, rfl, rfl⟩, fp, q⟩
  · exact wpAny_pyIter_ascii ha ⟨s1.heap.objs.size, [s1.heap.objs.size], _, Its z, H1, rfl, I1.kept (t' := s1.toks) fun b o e => Heap.get?_push_of_some _ e, turn_strA _ z t, ⟨_, Heap.get?_push_size _ rfl, rfl, rfl⟩, fp, q⟩

def rSlS : V → Option Int → Option Int → Hp → VK → Prop := fun x lo hi H Q => ∃ z, x = .str z ∧ z.length ≤ sizeLine ∧ Q (.str (Txt.slice z lo hi)) H
theorem sl_str : SlR X rSlS := by
  intro pins s σ H x v vl vu lo hi sl Q I rx hs pl pu h
  obtain ⟨z, rfl, hz, q⟩ := h
  obtain ⟨t, rfl⟩ := rx
  refine ⟨"str", _, F.slot_str_getitem.lookup, typeIs_str _ _ _, ?_⟩
  have fin : ∀ t' k, EP X pins σ Q (.str (Txt.slice z lo hi) t') { s with toks := k } := fun t' k => ⟨.str _, H, I.tok _, ⟨_, rfl⟩, q⟩
  obtain ⟨os, e1, e2, e3⟩ := hs
  cases pl with
  | none =>
    cases pu with
    | none => exact wpAny_getItem_str_slice (l := none) (u := none) (st := none) ⟨os, e1, e2, e3⟩ rfl (post_val_or_str ⟨Nat.le_trans (Txt.slice_le z _ _) hz, fin⟩)
    | int j u => exact wpAny_getItem_str_slice (l := none) (u := some (j, u)) (st := none) ⟨os, e1, e2, e3⟩ rfl (post_val_or_str ⟨Nat.le_trans (Txt.slice_le z _ _) hz, fin⟩)
  | int i t2 =>
    cases pu with
    | none => exact wpAny_getItem_str_slice (l := some (i, t2)) (u := none) (st := none) ⟨os, e1, e2, e3⟩ rfl (post_val_or_str ⟨Nat.le_trans (Txt.slice_le z _ _) hz, fin⟩)
    | int j u => exact wpAny_getItem_str_slice (l := some (i, t2)) (u := some (j, u)) (st := none) ⟨os, e1, e2, e3⟩ rfl (post_val_or_str ⟨Nat.le_trans (Txt.slice_le z _ _) hz, fin⟩)
end
end L2
namespace L2
open PySem PySem.Spec PyProof.Rows
inductive D where
  | non | bl (b : Bool) | int (i : Int) | str (x : Str) | tup (ds : List D) | lst (ds : List D)
mutual
def deq : D → D → Bool
  | .non, .non => true
  | .bl a, .bl b => a == b
  | .bl a, .int j => (if a then (1 : Int) else 0) == j
  | .int i, .bl b => i == (if b then (1 : Int) else 0)
  | .int i, .int j => i == j
  | .str x, .str y => x == y
  | .tup a, .tup b => deqs a b
  | .lst a, .lst b => deqs a b
  | _, _ => false
def deqs : List D → List D → Bool
  | [], [] => true
  | x :: xs, y :: ys => deq x y && deqs xs ys
  | _, _ => false
end
mutual
def D.deep : D → Nat
  | .tup ds => D.deeps ds + 1
  | .lst ds => D.deeps ds + 1
  | _ => 0
def D.deeps : List D → Nat
  | [] => 0
  | d :: ds => max d.deep (D.deeps ds)
end
mutual
theorem deq_refl : ∀ d : D, deq d d = true
  | .non => by simp [deq]
  | .bl _ => by simp [deq]
  | .int _ => by simp [deq]
  | .str _ => by simp [deq]
  | .tup ds => by simp [deq, deqs_refl ds]
  | .lst ds => by simp [deq, deqs_refl ds]
theorem deqs_refl : ∀ ds : List D, deqs ds ds = true
  | [] => by simp [deqs]
  | d :: ds => by simp [deqs, deq_refl d, deqs_refl ds]
end
theorem deep_mem : ∀ {ds : List D} {d : D} {j : Nat}, ds[j]? = some d → d.deep ≤ D.deeps ds
  | [], _, _, h => by simp at h
  | d :: ds, e, 0, h => by simp at h; subst h; simp [D.deeps]; omega
  | d :: ds, e, j + 1, h => by
    have := deep_mem (ds := ds) (j := j) (by simpa using h)
    simp [D.deeps]; omega
theorem deqs_range : ∀ {ds ds' : List D}, ((List.range (min ds.length ds'.length)).all (fun j => deq (ds.getD j .non) (ds'.getD j .non)) && (ds.length == ds'.length)) = deqs ds ds'
  | [], [] => by simp [deqs]
  | [], _ :: _ => by simp [deqs]
  | _ :: _, [] => by simp [deqs]
  | d :: ds, d' :: ds' => by
    have ih := deqs_range (ds := ds) (ds' := ds')
    have e : min (d :: ds).length (d' :: ds').length = min ds.length ds'.length + 1 := by simp
    rw [e, List.range_succ_eq_map, List.all_cons, List.all_map]
    simp only [deqs]
    rw [← ih]
    simp [Function.comp_def, Bool.and_assoc]
end L2
namespace L2
open PySem PySem.Spec PyProof.Rows
section
variable {X : Cx} {a b : Expr} {ta tb : TE} {pos : Pos}
def rLtA : R2 := fun x y H Q => rI0 (fun i j => .bl (decide (i < j))) x y H Q ∨ ∃ i j, x = .str i ∧ y = .str j ∧ Q (.bl (decide (i.cps.toList < j.cps.toList))) H
theorem op_ltA : OpR X (compareOp .Lt) rLtA := op_lt.or op_lt_str
def rLeA : R2 := fun x y H Q => rI0 (fun i j => .bl (decide (i ≤ j))) x y H Q ∨ ∃ i j, x = .str i ∧ y = .str j ∧ Q (.bl (!decide (j.cps.toList < i.cps.toList))) H
theorem op_leA : OpR X (compareOp .LtE) rLeA := op_le.or op_le_str
def rGtA : R2 := fun x y H Q => rI0 (fun i j => .bl (decide (j < i))) x y H Q ∨ ∃ i j, x = .str i ∧ y = .str j ∧ Q (.bl (decide (j.cps.toList < i.cps.toList))) H
theorem op_gtA : OpR X (compareOp .Gt) rGtA := op_gt.or op_gt_str
def rGeA : R2 := fun x y H Q => rI0 (fun i j => .bl (decide (j ≤ i))) x y H Q ∨ ∃ i j, x = .str i ∧ y = .str j ∧ Q (.bl (!decide (i.cps.toList < j.cps.toList))) H
theorem op_geA : OpR X (compareOp .GtE) rGeA := op_ge.or op_ge_str
def rIsA : R2 := fun x y H Q => (y = .non ∧ Q (.bl (decide (x = .non))) H) ∨ ∃ i j, x = .bl i ∧ y = .bl j ∧ Q (.bl (i == j)) H
theorem op_isA : OpR X (compareOp .Is) rIsA := op_isN.or op_is_bl
theorem comp_free (X : Cx) (scope : Scope) (h : (scope.names.all fun y => y.2 != .free || (X.env.kindOf y.1 == some .cell || X.env.kindOf y.1 == some .free)) = true) : ∀ y ∈ scope.names, y.2 = .free → X.env.kindOf y.1 = some .cell ∨ X.env.kindOf y.1 = some .free := by
  intro y hy e
  have := List.all_eq_true.mp h y hy
  rw [e] at this
  simpa using this
theorem comp_ix (X : Cx) (N' : List Str) (ix : List (Option Nat)) (scope : Scope) (h : ((List.range ix.length).all fun i => match ix[i]?, N'[i]? with
    | some (some j), some x => decide (X.N[j]? = some x) && decide (scope.names.lookup x = some .free)
    | _, _ => true) = true) : ∀ (i j : Nat) (x : Str), ix[i]? = some (some j) → N'[i]? = some x → X.N[j]? = some x ∧ scope.names.lookup x = some .free := by
  intro i j x h1 h2
  have hi : i < ix.length := (List.getElem?_eq_some_iff.mp h1).1
  have := List.all_eq_true.mp h i (List.mem_range.mpr hi)
  rw [h1, h2] at this
  simpa using this

def instB (t c : String) : Bool := t == c || (t == "bool" && c == "int")
theorem kit_instB (K : PySem.W.Frag) {t c : String} (ht : t = "NoneType" ∨ t = "bool" ∨ t = "int" ∨ t = "str" ∨ t = "list" ∨ t = "tuple" ∨ t = "dict") (hc : c = "str" ∨ c = "int" ∨ c = "bool" ∨ c = "tuple" ∨ c = "list") :
    PySem.W.kitOne K (.type t) (.type c) = some (instB t c) := by
  rcases ht with rfl | rfl | rfl | rfl | rfl | rfl | rfl <;> rcases hc with rfl | rfl | rfl | rfl | rfl <;> rfl
theorem hu150 {A : Around} {k : Nat} (hr : Room k A) : A.units + 150 < cLine := by
  have := hr.un
  omega
def notStar : Expr → Bool
  | .Starred _ _ => false
  | _ => true
theorem star_cons {e : Expr} {es : List Expr} {env : Env} (h : notStar e = true) : starEach (e :: es) env = (false, eval e env) :: starEach es env := by
  cases e <;> first | rfl | cases h
theorem pa_c {e : Expr} {es : List Expr} {te : TE} {t : TA} (ha : PE X e te) (hr : PA X es t) (h : notStar e = true := by rfl) : PA X (e :: es) (tCons te t) := pa_cons ha hr (star_cons h)
end
structure NmOk (sc : Scope) (x : Str) (k : NameKind) : Prop where
  lk : sc.names.lookup x = some k
  db : (x == ("__debug__" : Str)) = false
  cd : (x == ("__classdict__" : Str)) = false
  nn : x ≠ "__name__"
def VisK (k : NameKind) : Bool := match k with | .local => true | .cell => true | .free => true | _ => false
theorem relabel_lookup_glob {env : Env} {x : Str} : ∀ {names : List (Str × NameKind)}, names.lookup x = some .globalImplicit →
    (names.map fun (n, k) => if (k == NameKind.free && env.scope.kind == .function && env.kindOf n == some .cell) = true then (n, NameKind.cell) else (n, k)).lookup x = some .globalImplicit
  | [], h => by cases h
  | (n, k) :: r, h => by
    have ih := @relabel_lookup_glob env x r
    rw [List.map_cons]
    rw [List.lookup_cons] at h
    cases hx : x == n with
    | true =>
      rw [hx] at h
      have hk : k = .globalImplicit := Option.some.inj h
      subst hk
      have hc' : (if (NameKind.globalImplicit == NameKind.free && env.scope.kind == .function && env.kindOf n == some .cell) = true then (n, NameKind.cell) else (n, NameKind.globalImplicit)) = (n, NameKind.globalImplicit) := if_neg (by simp)
      simp only [hc', List.lookup_cons, hx]
    | false =>
      rw [hx] at h
      have q := ih h
      by_cases hc : (k == NameKind.free && env.scope.kind == .function && env.kindOf n == some .cell) = true
      · have hc' : (if (k == NameKind.free && env.scope.kind == .function && env.kindOf n == some .cell) = true then (n, NameKind.cell) else (n, k)) = (n, NameKind.cell) := if_pos hc
        simp only [hc', List.lookup_cons, hx]
        exact q
      · have hc' : (if (k == NameKind.free && env.scope.kind == .function && env.kindOf n == some .cell) = true then (n, NameKind.cell) else (n, k)) = (n, k) := if_neg hc
        simp only [hc', List.lookup_cons, hx]
        exact q
section
variable {X : Cx} {x : Str} {p pos : Pos} {e : Expr} {es : List Expr} {t : TA} {k : NameKind}
theorem pvk (i : Nat) (q : NmOk X.env.scope x k) (hN : X.N[i]? = some x := by rfl) (hk : VisK k = true := by rfl) : PE X (.Name x pos) (tVar i) :=
  pe_var hN (by cases k <;> first | exact .inl q.lk | exact .inr (.inl q.lk) | exact .inr (.inr q.lk) | exact absurd hk (by decide)) q.db q.cd
theorem NmOk.own {scope : Scope} {cl : List (Str × Addr)} {C : Addr} {s₀ : Shared} {H₀ : Hp} {fp : List Addr} {N' : List Str} (q : NmOk scope x .local) : NmOk (X.comp scope cl C s₀ H₀ fp N').env.scope x .local :=
  ⟨lookup_relabel_local q.lk, q.db, q.cd, q.nn⟩
theorem NmOk.glob {scope : Scope} {cl : List (Str × Addr)} {C : Addr} {s₀ : Shared} {H₀ : Hp} {fp : List Addr} {N' : List Str} (q : NmOk scope x .globalImplicit) : NmOk (X.comp scope cl C s₀ H₀ fp N').env.scope x .globalImplicit :=
  ⟨relabel_lookup_glob q.lk, q.db, q.cd, q.nn⟩
theorem pvf (i : Nat) {scope : Scope} {cl : List (Str × Addr)} {C : Addr} {s₀ : Shared} {H₀ : Hp} {fp : List Addr} {N' : List Str} (q : NmOk scope x .free) (hN : N'[i]? = some x := by rfl) : PE (X.comp scope cl C s₀ H₀ fp N') (.Name x pos) (tVar i) :=
  pe_var (X := X.comp scope cl C s₀ H₀ fp N') hN (by
    rcases relabel_lookup_free (env := X.env) q.lk with h | h
    · exact .inr (.inl h)
    · exact .inr (.inr h)) q.db q.cd
theorem pgo {i : Nat} {scope : Scope} {cl : List (Str × Addr)} {C : Addr} {s₀ : Shared} {H₀ : Hp} {fp : List Addr} {N' : List Str} (q : NmOk scope x .local) (hd : N'.Nodup) (hN : N'[i]? = some x := by rfl) : PG (X.comp scope cl C s₀ H₀ fp N') (.Name x pos) (gName i) :=
  pg_name (X := X.comp scope cl C s₀ H₀ fp N') hd hN (.inl (lookup_relabel_local q.lk)) (.inr (lookup_relabel_local q.lk))
section
variable {CX : CXT} {n : Nat} {f : Addr} {fd : FuncData} {ps : List Str} {sp : Sp} {dvs : List V} {ds : List Value} {E : XK} {id T : String} {r : List V → Hp → VK → Prop}
theorem pe_callk (F : FnOk X.prog X.w X.K X.mg X.base CX n f fd ps sp) (hr : Room n X.A) (q : NmOk X.env.scope x .globalImplicit) (hm : X.mg x = some (.ref f)) (hk : PySem.W.keepIn X.K (.ref f) = true) (hb : Binds X.K fd ps ds) (hd : Vals dvs ds) (hx : Passes CX X E)
    (ha : PA X (e :: es) t) (he : notStar e = true := by rfl) (hpl : (backTo pos (starEach es X.env)).any (·.1) = false := by rfl) :
    PE X (.Call (.Name x p) (e :: es) [] pos) (tCall sp dvs E t) := pe_call F hr q.lk hm hk hb hd hx ha q.db (star_cons he) hpl
theorem pe_callBk (hc : CallR X (.builtin id) r) (q : NmOk X.env.scope x .globalImplicit) (hm : X.mg x = none) (hv : bootBuiltins x = some (.builtin id)) (ha : PA X (e :: es) t)
    (he : notStar e = true := by rfl) (hpl : (backTo pos (starEach es X.env)).any (·.1) = false := by rfl) : PE X (.Call (.Name x p) (e :: es) [] pos) (tCB r t) := pe_callB hc q.lk hm hv ha q.nn q.db (star_cons he) hpl
theorem pe_callTyk (hc : CallR X (.type T) r) (q : NmOk X.env.scope x .globalImplicit) (hm : X.mg x = none) (hv : bootBuiltins x = some (.type T)) (ha : PA X (e :: es) t)
    (he : notStar e = true := by rfl) (hpl : (backTo pos (starEach es X.env)).any (·.1) = false := by rfl) : PE X (.Call (.Name x p) (e :: es) [] pos) (tCB r t) := pe_callTy hc q.lk hm hv ha q.nn q.db (star_cons he) hpl
theorem pe_bltnk {v : V} {u : Value} (q : NmOk X.env.scope x .globalImplicit) (hm : X.mg x = none) (hv : bootBuiltins x = some u) (r : RelV v u) : PE X (.Name x pos) (tC v) := pe_bltn q.lk hm hv r q.nn q.db
theorem pe_globk {v : V} {u : Value} (q : NmOk X.env.scope x .globalImplicit) (hm : X.mg x = some u) (r : RelV v u) : PE X (.Name x pos) (tC v) := pe_glob q.lk hm r q.db
end
end
def notComp : Expr → Bool
  | .ListComp _ _ _ _ => false
  | .SetComp _ _ _ _ => false
  | .DictComp _ _ _ _ _ => false
  | _ => true
theorem swaps_no {value : Expr} {tgt : Option Expr} {l : Nat} {env : Env} (h : notComp value = true) : swapsWith value tgt l env = pure false := by
  cases value <;> first | rfl | cases h
section
variable {X : Cx}
theorem ps_setk {i : Nat} {x : Str} {e : Expr} {te : TE} {pos pos' : Pos} (hN : X.N.Nodup) (hi : X.N[i]? = some x) (hx : Loc X.env.scope x) (he : PE X e te) (hs : notComp e = true := by rfl) (hf : X.fn x = true := by rfl) :
    PS X (.Assign [.Name x pos'] e pos) (tAsg te (gName i)) := ps_set hN hi hx he (swaps_no hs) (.inl hf)
end
end L2
namespace L2
open PySem PySem.Spec PyProof.Rows
section
variable {D : Ends} {σ : St} {H : Hp} {Q : VK} {B : Bool → Hp → Prop} {te ta tb tc : TE} {t u : TS} {g : TG} {tt uu : TT} {tr : TA} {r r' : R2} {K : PySem.W.Frag}
def Kept0 (ix : List (Option Nat)) (σ τ : St) : Prop := τ.length = ix.length ∧ ∀ (k : Nat) v, (tau ix σ)[k]? = some (some v) → τ[k]? = some (some v)
variable {ix : List (Option Nat)}
end
theorem upd_new {H : Hp} {b p : Addr} {o u : HO} (e : H b = some u) (hp : H p = none) : upd H p o b = some u := by rw [upd_ne (ne_of_none e hp)]; exact e
theorem same_new {H : Hp} {p : Addr} (h : H p = none) (o : HO) : Same H (upd H p o) := fun b u q => by rw [upd_ne (ne_of_none q h)]; exact q
end L2
namespace L2
open PySem PySem.Spec PyProof.Rows
section
variable {κ : Type} [DecidableEq κ]
def valV (kvs : List (κ × V)) (k : κ) : Option V := (kvs.find? fun kv => decide (kv.1 = k)).map (·.2)
def putK (kvs : List (κ × V)) (k : κ) (v : V) : List (κ × V) :=
  if (kvs.any fun kv => decide (kv.1 = k)) = true then kvs.map (fun kv => if kv.1 = k then (kv.1, v) else kv) else kvs ++ [(k, v)]
theorem valV_pos {p : κ × V} {r : List (κ × V)} {k : κ} (e : p.1 = k) : valV (p :: r) k = some p.2 := by simp [valV, List.find?_cons, e]
theorem valV_neg {p : κ × V} {r : List (κ × V)} {k : κ} (e : ¬ p.1 = k) : valV (p :: r) k = valV r k := by simp [valV, List.find?_cons, e]
theorem length_putK (kvs : List (κ × V)) (k : κ) (v : V) : (putK kvs k v).length ≤ kvs.length + 1 := by
  unfold putK
  split
  · rw [List.length_map]; omega
  · rw [List.length_append, List.length_cons, List.length_nil]; omega
theorem RelO.isSome_eq {o : Option V} {u : Option Value} (r : RelO o u) : o.isSome = u.isSome := by
  cases o with
  | none => cases u with
    | none => rfl
    | some _ => exact (show False from r).elim
  | some _ => cases u with
    | none => exact (show False from r).elim
    | some _ => rfl
theorem KV.val {kvs : List (κ × V)} {vs : List (κ × Value)} (r : KV kvs vs) (k : κ) : RelO (valV kvs k) (valueAt vs k) := by
  unfold KV at r
  induction r with
  | nil => exact True.intro
  | @cons p q ps qs h t ih =>
    obtain ⟨h1, h2⟩ := h
    by_cases e : p.1 = k
    · have e' : q.1 = k := h1.symm.trans e
      have b : valueAt (q :: qs) k = some q.2 := by simp [valueAt, List.find?_cons, e']
      rw [valV_pos e, b]; exact h2
    · have e' : ¬ q.1 = k := fun z => e (h1.trans z)
      have b : valueAt (q :: qs) k = valueAt qs k := by simp [valueAt, List.find?_cons, e']
      rw [valV_neg e, b]; exact ih
theorem KV.any {kvs : List (κ × V)} {vs : List (κ × Value)} (r : KV kvs vs) (k : κ) : (kvs.any fun kv => decide (kv.1 = k)) = vs.any fun kv => decide (kv.1 = k) := by
  unfold KV at r
  induction r with
  | nil => rfl
  | cons h t ih => rw [List.any_cons, List.any_cons, ih, h.1]
theorem KV.repl {kvs : List (κ × V)} {vs : List (κ × Value)} (r : KV kvs vs) (k : κ) {y : V} {u : Value} (ry : RelV y u) :
    KV (kvs.map fun kv => if kv.1 = k then (kv.1, y) else kv) (vs.map fun kv => if kv.1 = k then (kv.1, u) else kv) := by
  unfold KV at r ⊢
  induction r with
  | nil => exact .nil
  | @cons p q ps qs h t ih =>
    rw [List.map_cons, List.map_cons]
    refine .cons ?_ ih
    obtain ⟨h1, h2⟩ := h
    by_cases e : p.1 = k
    · rw [if_pos e, if_pos (h1.symm.trans e)]; exact ⟨h1, ry⟩
    · rw [if_neg e, if_neg (fun z => e (h1.trans z))]; exact ⟨h1, h2⟩
theorem KV.put {kvs : List (κ × V)} {vs : List (κ × Value)} (r : KV kvs vs) (k : κ) {y : V} {u : Value} (ry : RelV y u) : KV (putK kvs k y) (stored vs k u) := by
  unfold putK stored
  rw [r.any k]
  by_cases e : (vs.any fun kv => decide (kv.1 = k)) = true
  · rw [if_pos e, if_pos e]; exact r.repl k ry
  · rw [if_neg e, if_neg e]; exact Paired.snoc r ⟨rfl, ry⟩
theorem KV.length {kvs : List (κ × V)} {vs : List (κ × Value)} (r : KV kvs vs) : kvs.length = vs.length := Paired.length r
end
theorem kV_is {P : Program} {w : World} {k : Key} {u : Value} (r : RelV (kV k) u) : (mixKind P w).is k u = true := by
  cases k with
  | inl i => obtain ⟨t, e⟩ := (show ∃ t, u = Value.int i t from r); subst e; exact mixKind_int P w i t
  | inr x => obtain ⟨t, e⟩ := (show ∃ t, u = Value.str x t from r); subst e; exact mixKind_str P w x t
theorem items_are {P : Program} {w : World} : ∀ {ks : List Key} {us : List Value}, Vals (ks.map kV) us → ItemsAre (mixKind P w) ks us
  | [], _, r => by rw [List.map_nil] at r; cases r; exact .nil
  | k :: ks, _, r => by
    rw [List.map_cons] at r
    cases r with
    | cons h t => exact .cons (kV_is h) (items_are t)

abbrev KT (H : Hp) : List (List Key × V) → List (List Key × Addr × Value) → Prop := Paired fun p q => p.1 = q.1 ∧ H q.2.1 = some (.tup (p.1.map kV)) ∧ RelV p.2 q.2.2
theorem KT.val {H : Hp} {kvs : List (List Key × V)} {xs : List (List Key × Addr × Value)} (r : KT H kvs xs) (k : List Key) : RelO (valV kvs k) ((atKey xs k).map (·.2)) := by
  induction r with
  | nil => exact True.intro
  | @cons p q ps qs h t ih =>
    obtain ⟨h1, _, h2⟩ := h
    by_cases e : p.1 = k
    · have e' : q.1 = k := h1.symm.trans e
      have b : atKey (q :: qs) k = some q.2 := by simp [atKey, List.find?_cons, e']
      rw [valV_pos e, b]; exact h2
    · have e' : ¬ q.1 = k := fun z => e (h1.trans z)
      have b : atKey (q :: qs) k = atKey qs k := by simp [atKey, List.find?_cons, e']
      rw [valV_neg e, b]; exact ih
section
variable {P : Program} {w : World} {H : Hp} {h : Heap} {a : Addr}
theorem rd_of {u : HO} (ok : HOk P w H h) (e : Rd H a u) : ObjOk P w H h a u := e.ok ok
theorem dk_rd {kvs : List (Key × V)} (ok : HOk P w H h) (e : Rd H a (.dK kvs)) : kvs.length ≤ sizeLine ∧ (a == sysModules) = false ∧ ∃ vs, KV kvs vs ∧ h.DictOf (mixKind P w) a vs :=
  show ObjOk P w H h a (.dK kvs) from rd_of ok e
theorem dk_of {kvs : List (Key × V)} (ok : HOk P w H h) (e : H a = some (.dK kvs)) : kvs.length ≤ sizeLine ∧ (a == sysModules) = false ∧ ∃ vs, KV kvs vs ∧ h.DictOf (mixKind P w) a vs := dk_rd ok (.inl e)
theorem key_of {ks : List Key} (ok : HOk P w H h) (e : H a = some (.tup (ks.map kV))) : (tupleKind (mixKind P w)).is h ks a := by
  obtain ⟨_, its, r, o, h1, h2, n, h3⟩ := (show ObjOk P w H h a (.tup (ks.map kV)) from ok a _ e)
  exact ⟨o, its.toArray, n, h1, h2.1, h3, by simpa using items_are r⟩
theorem dt_rd {kvs : List (List Key × V)} (ok : HOk P w H h) (e : Rd H a (.dT kvs)) : kvs.length ≤ sizeLine ∧ (a == sysModules) = false ∧
    ∃ xs, KT H kvs xs ∧ h.DictOfH (tupleKind (mixKind P w)) a xs := by
  obtain ⟨z, y, xs, r, o, es, ep, h1, h2, h3, h4, h5⟩ := (show ObjOk P w H h a (.dT kvs) from rd_of ok e)
  refine ⟨z, y, xs, r, o, es, ep, h1, h2, h3, h4, fun x hx => ?_, h5⟩
  have all : ∀ {l : List (List Key × V)} {m : List (List Key × Addr × Value)}, KT H l m → ∀ x ∈ m, (tupleKind (mixKind P w)).is h x.1 x.2.1 := by
    intro l m q
    induction q with
    | nil => intro x hx; exact nomatch hx
    | @cons p q ps qs hq t ih =>
      intro x hx
      rcases List.mem_cons.mp hx with e | hx
      · subst e
        exact key_of ok (by rw [← hq.1]; exact hq.2.1)
      · exact ih x hx
  exact all r x hx
end
def DGet (H : Hp) (a : Addr) (y : V) (r : Option V) : Prop :=
  (∃ kvs k, Rd H a (.dK kvs) ∧ y = kV k ∧ r = valV kvs k) ∨ ∃ kvs k b, Rd H a (.dT kvs) ∧ y = .ref b ∧ H b = some (.tup (k.map kV)) ∧ r = valV kvs k
section
variable {X : Cx} {pins : List (Addr × Obj)} {σ : St} {H : Hp} {s : Shared} {a : Addr} {y v : V} {u r : Value} {o : Option V} {A : Around} {E : Value → Shared → Prop}
theorem Inv.big (I : Inv X pins σ H s) : sysModules < s.heap.objs.size := by
  have h : mainGlobals < s.heap.objs.size := (I.mod.glob.keeps I.bk).lt
  exact Nat.lt_trans (by decide) h

theorem d_getItem {Q : Value → Shared → Prop} (hu : A.units + 1 < cLine) (I : Inv X pins σ H s) (g : DGet H a y (some v)) (ry : RelV y u) (h : ∀ w' s', Inv X pins σ H s' → RelV v w' → Q w' s') :
    wpAny (model X.prog X.w) A (getItem (.ref a) u) Q E s := by
  rcases g with ⟨kvs, k, e, ey, l⟩ | ⟨kvs, k, b, e, ey, eb, l⟩
  · subst ey
    obtain ⟨z, hd, vs, rel, dd⟩ := dk_rd I.hok e
    obtain ⟨w', hw, rw'⟩ := RelO.some_of (v := v) (o := valueAt vs k) (by rw [l]; exact rel.val k)
    exact wpAny_getItem_of (kV_is ry) dd.mapOf hw (h w' _ (I.tok _) rw')
  · subst ey
    cases (show u = Value.ref b from ry)
    obtain ⟨z, hd, xs, rel, dd⟩ := dt_rd I.hok e
    obtain ⟨w', hw, rw'⟩ := RelO.some_of (v := v) (o := (atKey xs k).map (·.2)) (by rw [l]; exact rel.val k)
    obtain ⟨p, hp, hp2⟩ := Option.map_eq_some_iff.mp hw
    refine wpAny_getItem_heap (tupleKind_room_in1 hu) (key_of I.hok eb) dd hp ?_
    rw [hp2]
    exact h w' _ (I.tok _) rw'
theorem d_in {Q : Value → Shared → Prop} (hu : A.units + 1 < cLine) (I : Inv X pins σ H s) (g : DGet H a y o) (ry : RelV y u) (h : ∀ s', Inv X pins σ H s' → Q (.bool o.isSome) s') :
    wpAny (model X.prog X.w) A (compareOp .In u (.ref a)) Q E s := by
  rcases g with ⟨kvs, k, e, ey, l⟩ | ⟨kvs, k, b, e, ey, eb, l⟩
  · subst ey
    obtain ⟨z, hd, vs, rel, dd⟩ := dk_rd I.hok e
    refine wpAny_in_of (kV_is ry) hd dd.mapOf ?_
    rw [← (rel.val k).isSome_eq, ← l]
    exact h _ (I.tok _)
  · subst ey
    cases (show u = Value.ref b from ry)
    obtain ⟨z, hd, xs, rel, dd⟩ := dt_rd I.hok e
    refine wpAny_in_heap (tupleKind_room_in1 hu) (key_of I.hok eb) hd dd ?_
    have q := (rel.val k).isSome_eq
    rw [Option.isSome_map] at q
    rw [← q, ← l]
    exact h _ (I.tok _)
theorem d_notIn {Q : Value → Shared → Prop} (hu : A.units + 1 < cLine) (I : Inv X pins σ H s) (g : DGet H a y o) (ry : RelV y u) (h : ∀ s', Inv X pins σ H s' → Q (.bool (!o.isSome)) s') :
    wpAny (model X.prog X.w) A (compareOp .NotIn u (.ref a)) Q E s := by
  rcases g with ⟨kvs, k, e, ey, l⟩ | ⟨kvs, k, b, e, ey, eb, l⟩
  · subst ey
    obtain ⟨z, hd, vs, rel, dd⟩ := dk_rd I.hok e
    refine wpAny_notIn_of (kV_is ry) hd dd.mapOf ?_
    rw [← (rel.val k).isSome_eq, ← l]
    exact h _ (I.tok _)
  · subst ey
    cases (show u = Value.ref b from ry)
    obtain ⟨z, hd, xs, rel, dd⟩ := dt_rd I.hok e
    refine wpAny_notIn_heap (tupleKind_room_in1 hu) (key_of I.hok eb) hd dd ?_
    have q := (rel.val k).isSome_eq
    rw [Option.isSome_map] at q
    rw [← q, ← l]
    exact h _ (I.tok _)
theorem d_write {h' : Heap} {t' : Nat} {ob : HO} (I : Inv X pins σ H s) (mu : Mut (H a)) (hs : Heap.SameBut a s.heap h') (he : ∃ q, h'.get? a = some q) (new : ObjOk X.prog X.w (upd H a ob) h' a ob) :
    Inv X pins σ (upd H a ob) { s with heap := h', toks := t' } :=
  I.write (x := a) (e := a) mu (.inl rfl) (fun b q hb z => (hs.2 b hb).trans z) he new
theorem dk_new {P : Program} {w : World} {H' : Hp} {h' : Heap} {kvs : List (Key × V)} {vs : List (Key × Value)} (z : kvs.length ≤ sizeLine) (hd : (a == sysModules) = false) (rel : KV kvs vs) (dd : h'.DictOf (mixKind P w) a vs) :
    ObjOk P w H' h' a (.dK kvs) := ⟨z, hd, vs, rel, dd⟩
end
section
variable {X : Cx} {pins : List (Addr × Obj)} {σ : St} {H : Hp} {s : Shared} {a : Addr} {kvs : List (Key × V)} {k : Key} {u : Value} {A : Around} {E : Value → Shared → Prop}
theorem d_len {Q : Value → Shared → Prop} (I : Inv X pins σ H s) (e : Rd H a (.dK kvs)) (h : ∀ t s', Inv X pins σ H s' → Q (.int kvs.length t) s') : wpAny (model X.prog X.w) A (call (.builtin "len") [.ref a]) Q E s := by
  obtain ⟨z, hd, vs, rel, dd⟩ := dk_rd I.hok e
  refine call_len_dict hd dd (by rw [← rel.length]; rw [sizeLine_eq] at z; omega) ?_
  rw [← rel.length]
  exact h _ _ (I.tok _)
end
theorem dict_typeIs {X : Cx} {pins : List (Addr × Obj)} {σ : St} {H : Hp} {s : Shared} {a : Addr} {y : V} {o : Option V} (I : Inv X pins σ H s) (g : DGet H a y o) : s.TypeIs (.ref a) "dict" := by
  rcases g with ⟨kvs, k, e, _, _⟩ | ⟨kvs, k, b, e, _, _, _⟩
  · obtain ⟨_, _, vs, _, dd⟩ := dk_rd I.hok e
    exact dd.typeIs
  · obtain ⟨_, _, xs, _, dd⟩ := dt_rd I.hok e
    exact dd.typeIs
theorem dk_empty {P : Program} {w : World} {H : Hp} (h : Heap) (hb : sysModules < h.objs.size) : ObjOk P w H (h.push { cls := .type "dict", data := .dict #[] }) h.objs.size (.dK []) :=
  ⟨Nat.zero_le _, beq_eq_false_iff_ne.mpr (Ne.symm (Nat.ne_of_lt hb)), [], .nil, Heap.DictOf.new h⟩
abbrev VV : List (V × V) → List (Value × Value) → Prop := Paired fun p q => RelV p.1 q.1 ∧ RelV p.2 q.2
def mergeK (kvs more : List (Key × V)) : List (Key × V) := more.foldl (fun acc kv => putK acc kv.1 kv.2) kvs
theorem KV.merge : ∀ {more : List (Key × V)} {rs : List (Key × Value)} {kvs : List (Key × V)} {vs : List (Key × Value)}, KV more rs → KV kvs vs → KV (mergeK kvs more) (merged vs rs) := by
  intro more rs kvs vs r
  unfold KV at r
  induction r generalizing kvs vs with
  | nil => intro q; exact q
  | @cons p q ps qs h t ih =>
    intro r0
    have e : KV (putK kvs p.1 p.2) (stored vs q.1 q.2) := by
      have := r0.put p.1 h.2
      rw [← h.1]; exact this
    exact ih e
theorem length_mergeK : ∀ (more kvs : List (Key × V)), (mergeK kvs more).length ≤ kvs.length + more.length
  | [], kvs => by show kvs.length ≤ kvs.length + 0; omega
  | p :: r, kvs => by
    have h1 := length_mergeK r (putK kvs p.1 p.2)
    have h2 := length_putK kvs p.1 p.2
    show (mergeK (putK kvs p.1 p.2) r).length ≤ _
    rw [List.length_cons]; omega
theorem carries_of {P : Program} {w : World} : ∀ {kvs : List (Key × V)} {ws : List (Value × Value)}, VV (kvs.map fun kv => (kV kv.1, kv.2)) ws → ∃ rs, Carries (mixKind P w) ws rs ∧ KV kvs rs
  | [], _, r => by rw [List.map_nil] at r; cases r; exact ⟨[], True.intro, .nil⟩
  | p :: kvs, _, r => by
    rw [List.map_cons] at r
    cases r with
    | @cons a b as bs h t =>
      obtain ⟨rs, c, q⟩ := carries_of (P := P) (w := w) t
      obtain ⟨b1, b2⟩ := b
      exact ⟨(p.1, b2) :: rs, ⟨kV_is h.1, rfl, c⟩, .cons ⟨rfl, h.2⟩ q⟩
end L2
namespace L2
open PySem PySem.Spec PyProof.Rows
section
open PySem.SeqAt
variable {X : Cx} {pins : List (Addr × Obj)} {σ : St} {H : Hp} {s : Shared}
theorem kitAny_of (K : PySem.W.Frag) {t : String} (ht : t = "NoneType" ∨ t = "bool" ∨ t = "int" ∨ t = "str" ∨ t = "list" ∨ t = "tuple" ∨ t = "dict") : ∀ {cs : List String}, (∀ c ∈ cs, c = "str" ∨ c = "int" ∨ c = "bool" ∨ c = "tuple" ∨ c = "list") →
    PySem.W.kitAny K (.type t) (cs.map Value.type) = some (cs.any (instB t))
  | [], _ => rfl
  | c :: r, h => by
    have e := kit_instB K ht (h c List.mem_cons_self)
    have ih := kitAny_of K ht (cs := r) fun c' hc => h c' (List.mem_cons_of_mem _ hc)
    rw [List.map_cons, List.any_cons]
    unfold PySem.W.kitAny
    rw [e]
    cases instB t c with
    | true => rfl
    | false => simpa using ih
theorem vals_ty {cs : List String} : ∀ {us : List Value}, Vals (cs.map V.ty) us → us = cs.map Value.type := by
  induction cs with
  | nil => intro us r; cases r; rfl
  | cons b bs ih => intro us r; cases r with | cons r1 r2 => rw [ih r2, show _ = Value.type b from r1]; rfl
end
theorem hu151 {A : Around} {k : Nat} (hr : Room k A) : A.units + 151 < cLine := by
  have := hr.un
  omega
end L2
namespace L2
open PySem PySem.Spec PyProof.Rows HT
section
variable {prog : Program} {w : World} {A : Around} {E : Value → Shared → Prop} {s : Shared}
theorem whole_tuple {t sl : Addr} {items : Array Value} {vl vu : Value} {lo hi : Option Int} {Q : Value → Shared → Prop} (ht : IsTup s.heap t items) (hs : s.heap.IsSliceOf sl vl vu .none) (pl : IsPart vl lo) (pu : IsPart vu hi)
    (hw : sIx items.size 0 lo = 0 ∧ sIx items.size items.size hi = items.size) (h : Q (.ref t) s) : wpAny (model prog w) A (getItem (.ref t) (.ref sl)) Q E s := by
  have hTs : s.TypeIs (.ref sl) "slice" := by
    obtain ⟨os, hos, hcs, _⟩ := id hs
    exact ⟨os, hos, hcs⟩
  unfold getItem
  try with_reducible refine wpAny_holding ?_
  first | refine wpAny_bind (wpAny_pure ?_) | skip
  refine wpAny_bind (wpAny_sequenceKey ht.typeIs (by decide) ?_)
  refine wpAny_bind (wpAny_callSpecial?_slot (name := Str.ofString "__getitem__") ht.typeIs PyProof.Rows.slot_tuple_getitem
    (wpAny_call_entry PyProof.Rows.slot_tuple_getitem ht.typeIs entry_tuple_getitem ?_ (args_tuple_getitem _ _)))
  show wpAny _ _ (Builtin.Tuple.tupleItemsOf (.ref t) >>= _) _ _ s
  refine wpAny_bind (tupleItemsOf_ ht ?_)
  refine wpAny_bind (wpAny_typeOf hTs ?_)
  rw [if_pos (by decide)]
  refine wpAny_bind (sliceApplied_gen hs pl pu ?_)
  have yes : (((sIx items.size 0 lo : Nat) : Int) == 0 && (1 : Int) == 1 && (sIx items.size items.size hi - sIx items.size 0 lo) == items.size) = true := by
    rw [hw.1, hw.2]; simp
  show wpAny _ _ (if (((sIx items.size 0 lo : Nat) : Int) == 0 && (1 : Int) == 1 && (sIx items.size items.size hi - sIx items.size 0 lo) == items.size) = true then _ else _) _ _ s
  rw [if_pos yes]
  refine wpAny_bind (m := Builtin.Tuple.tupleIsExact _) (wpAny_bind (wpAny_typeOf ht.typeIs (wpAny_pure ?_)))
  show wpAny _ _ (if (Value.type "tuple" == Value.type "tuple") = true then _ else _) _ _ s
  rw [if_pos (by decide)]
  first
    | exact wpAny_bind (wpAny_pure (wpAny_pure ⟨_, rfl, wpAny_pure h⟩))
    | exact wpAny_bind (wpAny_rule (wpAny_pure ⟨_, rfl, wpAny_pure h⟩))
end
end L2
namespace L2
open PySem PySem.Spec PyProof.Rows
section
variable {X : Cx} {a b c e : Expr} {ta tb tc te : TE} {pos : Pos}
def tChain3 (r r' r'' : R2) (ta tb tc td : TE) : TE := fun σ H Q => ta σ H fun x H1 => tb σ H1 fun y H2 => r x y H2 fun z H3 => ∃ k, z = .bl k ∧
  (if k = true then tc σ H3 fun w H4 => r' y w H4 fun z' H5 => ∃ k', z' = .bl k' ∧ (if k' = true then td σ H5 fun u H6 => r'' w u H6 Q else Q (.bl false) H5) else Q (.bl false) H3)
theorem pe_chain3 {op op' op'' : CmpOp} {r r' r'' : R2} (ho : OpR X (compareOp op) r) (ho' : OpR X (compareOp op') r') (ho'' : OpR X (compareOp op'') r'') (ha : PE X a ta) (hb : PE X b tb) (hc : PE X c tc) (he : PE X e te)
    (hm : lastMarks [op, op', op''] [b, c, e] = false := by with_unfolding_all rfl) : PE X (.Compare a [op, op', op''] [b, c, e] pos) (tChain3 r r' r'' ta tb tc te) := by
  intro pins s σ H Q I h
  refine Compare_chain (thn (ha pins s σ H _ I h) fun v s1 ⟨x, H1, I1, r1, q1⟩ => chain_link (thn (hb pins s1 σ H1 _ I1 q1) fun u s2 ⟨y, H2, I2, r2, q2⟩ =>
    thn (ho pins s2 σ H2 x y v u _ I2 r1 r2 q2) fun d s3 ⟨z, H3, I3, r3, k, e3, q3⟩ => ?_)) hm
  subst e3
  cases r3
  refine wpAny_truthy_bool ?_
  cases k with
  | false => exact ite_ff ⟨.bl false, H3, I3, rfl, q3⟩
  | true =>
    refine ite_tt (chain_link (thn (hc pins s3 σ H3 _ I3 q3) fun w' s4 ⟨z', H4, I4, r4, q4⟩ => thn (ho' pins s4 σ H4 y z' u w' _ I4 r2 r4 q4) fun d5 s5 ⟨z5, H5, I5, r5, k5, e5, q5⟩ => ?_))
    subst e5
    cases r5
    refine wpAny_truthy_bool ?_
    cases k5 with
    | false => exact ite_ff ⟨.bl false, H5, I5, rfl, q5⟩
    | true => exact ite_tt (chain_last (thn (he pins s5 σ H5 _ I5 q5) fun w6 s6 ⟨z6, H6, I6, r6, q6⟩ => ho'' pins s6 σ H6 z' z6 w' w6 Q I6 r4 r6 q6))
end
end L2
namespace L2
open PySem PySem.Spec PyProof.Rows
inductive M where
  | non | bl (b : Bool) | int (i : Int) | str (x : Str) | ty (n : String)
  | tup (xs : List M) | lst (xs : List M) | dct (ks : List Key) (xs : List M) | ref (k : Nat) | scr (ns : List Int)
inductive MO where
  | lst (xs : List M) | dct (kvs : List (Key × M))
abbrev HpM := List MO
abbrev EnvM := List (Option M)
abbrev FE := EnvM → HpM → Option (M × HpM)
abbrev FA := EnvM → HpM → Option (List M × HpM)
abbrev FT := EnvM → HpM → Option (Bool × HpM)
abbrev FF := List M → HpM → Option (M × HpM)
inductive Out where
  | nx (ρ : EnvM) | bk (ρ : EnvM) | ct (ρ : EnvM) | rt (d : M)
abbrev FS := EnvM → HpM → Option (Out × HpM)
abbrev FG := M → EnvM → HpM → Option (EnvM × HpM)

structure Pl where
  a : List Addr
  g : List Addr
def Pl.no (α : Pl) (b : Addr) : Prop := b ∉ α.a ∧ b ∉ α.g
def Pl.add (α : Pl) (b : Addr) : Pl := ⟨α.a ++ [b], α.g⟩
def Pl.hide (α : Pl) (b : Addr) : Pl := ⟨α.a, b :: α.g⟩
def TupAt (K : PySem.W.Frag) (α : Pl) (H : Hp) (a : Addr) (vs : List V) : Prop :=
  (Rd H a (.tup vs) ∧ α.no a) ∨
    ∃ (o : Obj) (its : Array Value) (n : Nat), K.lookup a = some o ∧ TupC o ∧ o.data = .seq its n ∧ its.size ≤ sizeLine ∧ Vals vs its.toList
def ScrAt (K : PySem.W.Frag) (α : Pl) (H : Hp) (a : Addr) (vs : List V) : Prop :=
  (Rd H a (.lst vs) ∧ α.no a) ∨
    ∃ (o : Obj) (its : Array Value) (n : Nat), K.lookup a = some o ∧ o.cls = .type "list" ∧ o.dict = none ∧ o.data = .seq its n ∧ its.size ≤ sizeLine ∧ Vals vs its.toList
mutual
def RepA (K : PySem.W.Frag) (α : Pl) (H : Hp) : M → V → Prop
  | .non, v => v = .non
  | .bl b, v => v = .bl b
  | .int i, v => v = .int i
  | .str x, v => v = .str x
  | .ty n, v => v = .ty n
  | .tup xs, v => ∃ a vs, v = .ref a ∧ TupAt K α H a vs ∧ RepAs K α H xs vs
  | .scr ns, v => ∃ a, v = .ref a ∧ ScrAt K α H a (ns.map V.int)
  | .lst xs, v => ∃ a vs, v = .ref a ∧ α.no a ∧ H a = some (.lst vs) ∧ RepAs K α H xs vs
  | .dct ks xs, v => ∃ a ws, v = .ref a ∧ α.no a ∧ Rd H a (.dK ws) ∧ ws.map (·.1) = ks ∧ RepAs K α H xs (ws.map (·.2))
  | .ref k, v => ∃ a, α.a[k]? = some a ∧ v = .ref a
def RepAs (K : PySem.W.Frag) (α : Pl) (H : Hp) : List M → List V → Prop
  | [], vs => vs = []
  | x :: xs, vs => ∃ v r, vs = v :: r ∧ RepA K α H x v ∧ RepAs K α H xs r
end
def RepO (K : PySem.W.Frag) (α : Pl) (H : Hp) : MO → Addr → Prop
  | .lst xs, a => ∃ vs, H a = some (.lst vs) ∧ RepAs K α H xs vs
  | .dct kvs, a => ∃ ws, H a = some (.dK ws) ∧ ws.map (·.1) = kvs.map (·.1) ∧ RepAs K α H (kvs.map (·.2)) (ws.map (·.2))
structure Rl (K : PySem.W.Frag) (α : Pl) (h : HpM) (H : Hp) : Prop where
  len : α.a.length = h.length
  nd : α.a.Nodup
  ap : ∀ b ∈ α.a, b ∉ α.g
  hid : ∀ b ∈ α.g, ∃ o, H b = some o
  obj : ∀ (k : Nat) (a : Addr) (o : MO), α.a[k]? = some a → h[k]? = some o → RepO K α H o a
def NotD : HO → Prop
  | .dK _ => False
  | _ => True
structure Ev (α α' : Pl) (H H' : Hp) : Prop where
  pre : α'.g = α.g ∧ ∃ β, α'.a = α.a ++ β ∧ ∀ b ∈ β, H b = none
  keep : ∀ b o, H b = some o → (NotD o ∨ b ∈ α.g) → b ∉ α.a → H' b = some o
  keepD : ∀ b ws, H b = some (.dK ws) → b ∉ α.a → Rd H' b (.dK ws)
  dom : ∀ b, H' b = none → H b = none
def REnv (K : PySem.W.Frag) (α : Pl) (H : Hp) (ρ : EnvM) (σ : St) : Prop :=
  ρ.length = σ.length ∧ ∀ (i : Nat) (m : M), ρ[i]? = some (some m) → ∃ v, σ[i]? = some (some v) ∧ RepA K α H m v

theorem Ev.mkk {α α' : Pl} {H H' : Hp} (pre : α'.g = α.g ∧ ∃ β, α'.a = α.a ++ β ∧ ∀ b ∈ β, H b = none) (keep : ∀ b o, H b = some o → b ∉ α.a → H' b = some o) (dom : ∀ b, H' b = none → H b = none) : Ev α α' H H' :=
  ⟨pre, fun b o h _ n => keep b o h n, fun b ws h n => .inl (keep b _ h n), dom⟩
theorem Ev.refl {α : Pl} {H : Hp} : Ev α α H H := .mkk ⟨rfl, [], by simp, by simp⟩ (fun _ _ e _ => e) (fun _ e => e)
theorem Ev.notA {α α' : Pl} {H H' : Hp} (e : Ev α α' H H') {b : Addr} {o : HO} (hb : H b = some o) (n : b ∉ α.a) : b ∉ α'.a := by
  obtain ⟨_, β, e1, f⟩ := e.pre
  intro h
  rw [e1] at h
  rcases List.mem_append.mp h with h | h
  · exact n h
  · rw [f b h] at hb; cases hb
theorem Ev.notMem {α α' : Pl} {H H' : Hp} (e : Ev α α' H H') {b : Addr} {o : HO} (hb : H b = some o) (n : α.no b) : α'.no b := ⟨e.notA hb n.1, by rw [e.pre.1]; exact n.2⟩
theorem Ev.trans {α α1 α2 : Pl} {H H1 H2 : Hp} (e : Ev α α1 H H1) (f : Ev α1 α2 H1 H2) : Ev α α2 H H2 := by
  refine ⟨?_, fun b o hb q n => f.keep b o (e.keep b o hb q n) (q.imp id fun z => by rw [e.pre.1]; exact z) (e.notA hb n), fun b ws hb n => ?_, fun b hb => e.dom b (f.dom b hb)⟩
  rotate_left
  · rcases e.keepD b ws hb n with z | ⟨o, z⟩
    · exact f.keepD b ws z (e.notA hb n)
    · exact .inr ⟨o, f.keep b _ z (.inl trivial) (e.notA hb n)⟩
  obtain ⟨g1, β, e1, f1⟩ := e.pre
  obtain ⟨g2, γ, e2, f2⟩ := f.pre
  refine ⟨g2.trans g1, β ++ γ, by rw [e2, e1, List.append_assoc], fun b hb => ?_⟩
  rcases List.mem_append.mp hb with hb | hb
  · exact f1 b hb
  · exact e.dom b (f2 b hb)
theorem Ev.same {α : Pl} {H H' : Hp} (s : Same H H') : Ev α α H H' := .mkk ⟨rfl, [], by simp, by simp⟩ (fun b o e _ => s b o e) (fun b e => by
  cases h : H b with
  | none => rfl
  | some o => rw [s b o h] at e; cases e)
theorem Ev.rd {α α' : Pl} {H H' : Hp} (e : Ev α α' H H') {a : Addr} {u : HO} (r : Rd H a u) (n : α.no a) (hd : NotD u) : Rd H' a u ∧ α'.no a := by
  rcases r with r | ⟨o, r⟩
  · exact ⟨.inl (e.keep _ _ r (.inl hd) n.1), e.notMem r n⟩
  · exact ⟨.inr ⟨o, e.keep _ _ r (.inl trivial) n.1⟩, e.notMem r n⟩
theorem Ev.rdD {α α' : Pl} {H H' : Hp} (e : Ev α α' H H') {a : Addr} {ws : List (Key × V)} (r : Rd H a (.dK ws)) (n : α.no a) : Rd H' a (.dK ws) ∧ α'.no a := by
  rcases r with r | ⟨o, r⟩
  · exact ⟨e.keepD _ _ r n.1, e.notMem r n⟩
  · exact ⟨.inr ⟨o, e.keep _ _ r (.inl trivial) n.1⟩, e.notMem r n⟩
theorem Ev.ix {α α' : Pl} {H H' : Hp} (e : Ev α α' H H') {k : Nat} {a : Addr} (h : α.a[k]? = some a) : α'.a[k]? = some a := by
  obtain ⟨_, β, e1, _⟩ := e.pre
  have hk : k < α.a.length := (List.getElem?_eq_some_iff.mp h).1
  rw [e1, List.getElem?_append_left hk]; exact h
theorem TupAt.ev {K : PySem.W.Frag} {α α' : Pl} {H H' : Hp} (e : Ev α α' H H') {a : Addr} {vs : List V} (t : TupAt K α H a vs) : TupAt K α' H' a vs := by
  rcases t with ⟨r, n⟩ | t
  · exact .inl (e.rd r n trivial)
  · exact .inr t
theorem TupAt.sq {K : PySem.W.Frag} {α : Pl} {H : Hp} {a : Addr} {vs : List V} (t : TupAt K α H a vs) : SqT K H a vs := by
  rcases t with ⟨r, _⟩ | t
  · exact .inl r
  · exact .inr t
theorem ScrAt.ev {K : PySem.W.Frag} {α α' : Pl} {H H' : Hp} (e : Ev α α' H H') {a : Addr} {vs : List V} (t : ScrAt K α H a vs) : ScrAt K α' H' a vs := by
  rcases t with ⟨r, n⟩ | t
  · exact .inl (e.rd r n trivial)
  · exact .inr t
theorem ScrAt.sq {K : PySem.W.Frag} {α : Pl} {H : Hp} {a : Addr} {vs : List V} (t : ScrAt K α H a vs) : SqL K H a vs := by
  rcases t with ⟨r, _⟩ | t
  · exact .inl r
  · exact .inr t
mutual
theorem RepA.ev {K : PySem.W.Frag} {α α' : Pl} {H H' : Hp} (e : Ev α α' H H') : ∀ {m : M} {v : V}, RepA K α H m v → RepA K α' H' m v
  | .non, _, h => h
  | .bl _, _, h => h
  | .int _, _, h => h
  | .str _, _, h => h
  | .ty _, _, h => h
  | .tup xs, _, ⟨a, vs, e1, t, r⟩ => ⟨a, vs, e1, t.ev e, RepAs.ev e r⟩
  | .scr ns, _, ⟨a, e1, t⟩ => ⟨a, e1, t.ev e⟩
  | .lst xs, _, ⟨a, vs, e1, n, t, r⟩ => ⟨a, vs, e1, e.notMem t n, e.keep _ _ t (.inl trivial) n.1, RepAs.ev e r⟩
  | .dct ks xs, _, ⟨a, ws, e1, n, t, ek, r⟩ => ⟨a, ws, e1, (e.rdD t n).2, (e.rdD t n).1, ek, RepAs.ev e r⟩
  | .ref k, _, ⟨a, h, e1⟩ => ⟨a, e.ix h, e1⟩
theorem RepAs.ev {K : PySem.W.Frag} {α α' : Pl} {H H' : Hp} (e : Ev α α' H H') : ∀ {xs : List M} {vs : List V}, RepAs K α H xs vs → RepAs K α' H' xs vs
  | [], _, h => h
  | x :: xs, _, ⟨v, r, e1, h1, h2⟩ => ⟨v, r, e1, RepA.ev e h1, RepAs.ev e h2⟩
end
theorem REnv.ev {K : PySem.W.Frag} {α α' : Pl} {H H' : Hp} (e : Ev α α' H H') {ρ : EnvM} {σ : St} (r : REnv K α H ρ σ) : REnv K α' H' ρ σ :=
  ⟨r.1, fun i m h => by obtain ⟨v, h1, h2⟩ := r.2 i m h; exact ⟨v, h1, h2.ev e⟩⟩
theorem RepAs.length {K : PySem.W.Frag} {α : Pl} {H : Hp} : ∀ {xs : List M} {vs : List V}, RepAs K α H xs vs → xs.length = vs.length
  | [], _, h => by cases (show _ = [] from h); rfl
  | x :: xs, _, ⟨v, r, e1, _, h2⟩ => by subst e1; simp [RepAs.length h2]
theorem RepAs.get {K : PySem.W.Frag} {α : Pl} {H : Hp} : ∀ {xs : List M} {vs : List V} {i : Nat} {m : M}, RepAs K α H xs vs → xs[i]? = some m → ∃ v, vs[i]? = some v ∧ RepA K α H m v
  | [], _, _, _, _, h => by simp at h
  | x :: xs, _, 0, m, ⟨v, r, e1, h1, h2⟩, h => by subst e1; simp at h; subst h; exact ⟨v, rfl, h1⟩
  | x :: xs, _, i + 1, m, ⟨v, r, e1, h1, h2⟩, h => by subst e1; simpa using RepAs.get (i := i) h2 (by simpa using h)
theorem RepAs.app {K : PySem.W.Frag} {α : Pl} {H : Hp} : ∀ {xs : List M} {vs : List V} {ys : List M} {ws : List V}, RepAs K α H xs vs → RepAs K α H ys ws → RepAs K α H (xs ++ ys) (vs ++ ws)
  | [], _, _, _, h, h' => by cases (show _ = [] from h); exact h'
  | x :: xs, _, _, _, ⟨v, r, e1, h1, h2⟩, h' => by subst e1; exact ⟨v, _, rfl, h1, RepAs.app h2 h'⟩
theorem RepAs.drop {K : PySem.W.Frag} {α : Pl} {H : Hp} : ∀ {xs : List M} {vs : List V} (n : Nat), RepAs K α H xs vs → RepAs K α H (xs.drop n) (vs.drop n)
  | _, _, 0, h => h
  | [], _, _ + 1, h => by cases (show _ = [] from h); exact rfl
  | x :: xs, _, n + 1, ⟨v, r, e1, h1, h2⟩ => by subst e1; exact RepAs.drop n h2
theorem RepAs.take {K : PySem.W.Frag} {α : Pl} {H : Hp} : ∀ {xs : List M} {vs : List V} (n : Nat), RepAs K α H xs vs → RepAs K α H (xs.take n) (vs.take n)
  | _, _, 0, h => by simp only [List.take_zero]; exact rfl
  | [], _, _ + 1, h => by cases (show _ = [] from h); exact rfl
  | x :: xs, _, n + 1, ⟨v, r, e1, h1, h2⟩ => by subst e1; exact ⟨v, _, rfl, h1, RepAs.take n h2⟩
theorem RepAs.set {K : PySem.W.Frag} {α : Pl} {H : Hp} {m : M} {v : V} (hm : RepA K α H m v) : ∀ {xs : List M} {vs : List V} (n : Nat), RepAs K α H xs vs → RepAs K α H (xs.set n m) (vs.set n v)
  | [], _, n, h => by cases (show _ = [] from h); exact rfl
  | x :: xs, _, 0, ⟨v, r, e1, h1, h2⟩ => by subst e1; exact ⟨_, _, rfl, hm, h2⟩
  | x :: xs, _, n + 1, ⟨v, r, e1, h1, h2⟩ => by subst e1; exact ⟨v, _, rfl, h1, RepAs.set hm n h2⟩
theorem RepAs.snoc {K : PySem.W.Frag} {α : Pl} {H : Hp} {xs : List M} {vs : List V} {m : M} {v : V} (h : RepAs K α H xs vs) (hm : RepA K α H m v) : RepAs K α H (xs ++ [m]) (vs ++ [v]) := h.app ⟨v, [], rfl, hm, rfl⟩
theorem RepAs.at {K : PySem.W.Frag} {α : Pl} {H : Hp} {xs : List M} {vs : List V} {i : Int} {m : M} (h : RepAs K α H xs vs) (e : atI xs i = some m) : ∃ v, atI vs i = some v ∧ RepA K α H m v := by
  unfold atI at e ⊢
  rw [← h.length]
  cases q : ixN xs.length i with
  | none => rw [q] at e; cases e
  | some j =>
    rw [q] at e
    exact h.get e
theorem Rl.same {K : PySem.W.Frag} {α : Pl} {h : HpM} {H H' : Hp} (r : Rl K α h H) (s : Same H H') : Rl K α h H' :=
  ⟨r.len, r.nd, r.ap, fun b hb => by
    obtain ⟨o, e⟩ := r.hid b hb
    exact ⟨o, s b o e⟩, fun k a o hk ho => by
    have e : Ev α α H H' := Ev.same s
    have q := r.obj k a o hk ho
    cases o with
    | lst xs => obtain ⟨vs, h1, h2⟩ := q; exact ⟨vs, s _ _ h1, h2.ev e⟩
    | dct kvs => obtain ⟨ws, h1, h2, h3⟩ := q; exact ⟨ws, s _ _ h1, h2, h3.ev e⟩⟩
theorem Rl.some_at {K : PySem.W.Frag} {α : Pl} {h : HpM} {H : Hp} (r : Rl K α h H) {a : Addr} (ha : a ∈ α.a) : ∃ o, H a = some o := by
  obtain ⟨k, hk⟩ := List.getElem?_of_mem ha
  have hl : k < h.length := by rw [← r.len]; exact (List.getElem?_eq_some_iff.mp hk).1
  have q := r.obj k a h[k] hk (by simp [hl])
  revert q
  cases h[k] with
  | lst xs => rintro ⟨vs, h1, _⟩; exact ⟨_, h1⟩
  | dct kvs => rintro ⟨vs, h1, _⟩; exact ⟨_, h1⟩
theorem Ev.write {K : PySem.W.Frag} {α : Pl} {h : HpM} {H : Hp} (r : Rl K α h H) {a : Addr} (ha : a ∈ α.a) {u : HO} : Ev α α H (upd H a u) :=
  .mkk ⟨rfl, [], by simp, by simp⟩ (fun b o e n => by
    have hba : b ≠ a := by intro z; subst z; exact n ha
    rw [upd_ne hba]; exact e) (fun b e => by
    by_cases hb : b = a
    · subst hb; rw [upd_same] at e; cases e
    · rw [upd_ne hb] at e; exact e)
theorem Rl.write {K : PySem.W.Frag} {α : Pl} {h : HpM} {H : Hp} (r : Rl K α h H) {k : Nat} {a : Addr} (ha : α.a[k]? = some a) {u : HO} {o : MO} (ho : RepO K α (upd H a u) o a) : Rl K α (h.set k o) (upd H a u) := by
  have e : Ev α α H (upd H a u) := Ev.write r (List.mem_of_getElem? ha)
  refine ⟨by simp [r.len], r.nd, r.ap, fun b hb => by
    obtain ⟨o, e⟩ := r.hid b hb
    by_cases z : b = a
    · subst z; exact ⟨_, upd_same⟩
    · exact ⟨o, by rw [upd_ne z]; exact e⟩, fun j b o' hj ho' => ?_⟩
  by_cases hjk : j = k
  · subst hjk
    rw [ha] at hj; cases hj
    have hl : j < h.length := by rw [← r.len]; exact (List.getElem?_eq_some_iff.mp ha).1
    rw [List.getElem?_set_self hl] at ho'; cases ho'
    exact ho
  · rw [List.getElem?_set_ne (fun z => hjk z.symm)] at ho'
    have hba : b ≠ a := fun z => by
      subst z
      have hjl := (List.getElem?_eq_some_iff.mp hj)
      have hkl := (List.getElem?_eq_some_iff.mp ha)
      exact hjk ((List.getElem_inj r.nd).mp (hjl.2.trans hkl.2.symm))
    have q := r.obj j b o' hj ho'
    cases o' with
    | lst xs => obtain ⟨vs, h1, h2⟩ := q; exact ⟨vs, by rw [upd_ne hba]; exact h1, h2.ev e⟩
    | dct kvs => obtain ⟨ws, h1, h2, h3⟩ := q; exact ⟨ws, by rw [upd_ne hba]; exact h1, h2, h3.ev e⟩
theorem Ev.alloc {α : Pl} {H : Hp} {p : Addr} (hp : H p = none) {u : HO} : Ev α (α.add p) H (upd H p u) :=
  .mkk ⟨rfl, [p], rfl, fun b hb => by rw [List.mem_singleton.mp hb]; exact hp⟩ (fun b o e _ => upd_new e hp) (fun b e => by
    by_cases hb : b = p
    · subst hb; exact hp
    · rw [upd_ne hb] at e; exact e)
theorem Rl.newA {K : PySem.W.Frag} {α : Pl} {h : HpM} {H : Hp} (r : Rl K α h H) {p : Addr} (hp : H p = none) : p ∉ α.a := fun hm => by
  obtain ⟨o, e⟩ := r.some_at hm
  rw [hp] at e; cases e
theorem Rl.new {K : PySem.W.Frag} {α : Pl} {h : HpM} {H : Hp} (r : Rl K α h H) {p : Addr} (hp : H p = none) : α.no p := ⟨r.newA hp, fun hm => by
  obtain ⟨o, e⟩ := r.hid p hm
  rw [hp] at e; cases e⟩
theorem Rl.alloc {K : PySem.W.Frag} {α : Pl} {h : HpM} {H : Hp} (r : Rl K α h H) {p : Addr} (hp : H p = none) {u : HO} {o : MO} (ho : RepO K (α.add p) (upd H p u) o p) : Rl K (α.add p) (h ++ [o]) (upd H p u) := by
  have e : Ev α (α.add p) H (upd H p u) := Ev.alloc hp
  refine ⟨by simp [r.len, Pl.add], ?_, fun b hb => ?_, fun b hb => ?_, fun j b o' hj ho' => ?_⟩
  · show (α.a ++ [p]).Nodup
    rw [List.nodup_append]
    refine ⟨r.nd, by simp, fun x hx y hy => ?_⟩
    rw [List.mem_singleton.mp hy]
    exact fun z => r.newA hp (z ▸ hx)
  · rcases List.mem_append.mp (show b ∈ α.a ++ [p] from hb) with hb | hb
    · exact r.ap b hb
    · rw [List.mem_singleton.mp hb]; exact (r.new hp).2
  · obtain ⟨o, e⟩ := r.hid b hb
    exact ⟨o, upd_new e hp⟩
  · have hj : (α.a ++ [p])[j]? = some b := hj
    by_cases hl : j < α.a.length
    · rw [List.getElem?_append_left hl] at hj
      rw [List.getElem?_append_left (by rw [← r.len]; exact hl)] at ho'
      have q := r.obj j b o' hj ho'
      cases o' with
      | lst xs => obtain ⟨vs, h1, h2⟩ := q; exact ⟨vs, upd_new h1 hp, h2.ev e⟩
      | dct kvs => obtain ⟨ws, h1, h2, h3⟩ := q; exact ⟨ws, upd_new h1 hp, h2, h3.ev e⟩
    · have hj' : j < α.a.length + 1 := by simpa using (List.getElem?_eq_some_iff.mp hj).1
      have ej : j = α.a.length := by omega
      subst ej
      rw [List.getElem?_append_right (Nat.le_refl _)] at hj
      simp at hj
      rw [r.len, List.getElem?_append_right (Nat.le_refl _)] at ho'
      simp at ho'
      subst hj ho'
      exact ho
mutual
theorem RepA.hide {K : PySem.W.Frag} {α : Pl} {H : Hp} {p : Addr} (hp : H p = none) : ∀ {m : M} {v : V}, RepA K α H m v → RepA K (α.hide p) H m v
  | .non, _, h => h
  | .bl _, _, h => h
  | .int _, _, h => h
  | .str _, _, h => h
  | .ty _, _, h => h
  | .tup xs, _, ⟨a, vs, e1, t, r⟩ => ⟨a, vs, e1, t.elim (fun ⟨q, n⟩ => .inl ⟨q, n.1, fun hm => by
      rcases List.mem_cons.mp hm with z | z
      · subst z; rcases q with q | ⟨_, q⟩ <;> (rw [hp] at q; cases q)
      · exact n.2 z⟩) .inr, RepAs.hide hp r⟩
  | .scr ns, _, ⟨a, e1, t⟩ => ⟨a, e1, t.elim (fun ⟨q, n⟩ => .inl ⟨q, n.1, fun hm => by
      rcases List.mem_cons.mp hm with z | z
      · subst z; rcases q with q | ⟨_, q⟩ <;> (rw [hp] at q; cases q)
      · exact n.2 z⟩) .inr⟩
  | .lst xs, _, ⟨a, vs, e1, n, t, r⟩ => ⟨a, vs, e1, ⟨n.1, fun hm => by
      rcases List.mem_cons.mp hm with z | z
      · subst z; rw [hp] at t; cases t
      · exact n.2 z⟩, t, RepAs.hide hp r⟩
  | .dct ks xs, _, ⟨a, ws, e1, n, t, ek, r⟩ => ⟨a, ws, e1, ⟨n.1, fun hm => by
      rcases List.mem_cons.mp hm with z | z
      · subst z; rcases t with t | ⟨_, t⟩ <;> (rw [hp] at t; cases t)
      · exact n.2 z⟩, t, ek, RepAs.hide hp r⟩
  | .ref k, _, h => h
theorem RepAs.hide {K : PySem.W.Frag} {α : Pl} {H : Hp} {p : Addr} (hp : H p = none) : ∀ {xs : List M} {vs : List V}, RepAs K α H xs vs → RepAs K (α.hide p) H xs vs
  | [], _, h => h
  | x :: xs, _, ⟨v, r, e1, h1, h2⟩ => ⟨v, r, e1, RepA.hide hp h1, RepAs.hide hp h2⟩
end
mutual
theorem RepA.show {K : PySem.W.Frag} {α : Pl} {H : Hp} {p : Addr} : ∀ {m : M} {v : V}, RepA K (α.hide p) H m v → RepA K α H m v
  | .non, _, h => h
  | .bl _, _, h => h
  | .int _, _, h => h
  | .str _, _, h => h
  | .ty _, _, h => h
  | .tup xs, _, ⟨a, vs, e1, t, r⟩ => ⟨a, vs, e1, t.elim (fun ⟨q, n⟩ => .inl ⟨q, n.1, fun hm => n.2 (List.mem_cons_of_mem _ hm)⟩) .inr, RepAs.show r⟩
  | .scr ns, _, ⟨a, e1, t⟩ => ⟨a, e1, t.elim (fun ⟨q, n⟩ => .inl ⟨q, n.1, fun hm => n.2 (List.mem_cons_of_mem _ hm)⟩) .inr⟩
  | .lst xs, _, ⟨a, vs, e1, n, t, r⟩ => ⟨a, vs, e1, ⟨n.1, fun hm => n.2 (List.mem_cons_of_mem _ hm)⟩, t, RepAs.show r⟩
  | .dct ks xs, _, ⟨a, ws, e1, n, t, ek, r⟩ => ⟨a, ws, e1, ⟨n.1, fun hm => n.2 (List.mem_cons_of_mem _ hm)⟩, t, ek, RepAs.show r⟩
  | .ref k, _, h => h
theorem RepAs.show {K : PySem.W.Frag} {α : Pl} {H : Hp} {p : Addr} : ∀ {xs : List M} {vs : List V}, RepAs K (α.hide p) H xs vs → RepAs K α H xs vs
  | [], _, h => h
  | x :: xs, _, ⟨v, r, e1, h1, h2⟩ => ⟨v, r, e1, RepA.show h1, RepAs.show h2⟩
end
mutual
theorem RepA.hw {K : PySem.W.Frag} {α : Pl} {H : Hp} {p : Addr} {u : HO} (hp : p ∈ α.g) : ∀ {m : M} {v : V}, RepA K α H m v → RepA K α (upd H p u) m v
  | .non, _, h => h
  | .bl _, _, h => h
  | .int _, _, h => h
  | .str _, _, h => h
  | .ty _, _, h => h
  | .tup xs, _, ⟨a, vs, e1, t, r⟩ => ⟨a, vs, e1, t.elim (fun ⟨q, n⟩ => .inl ⟨by
      have hn : a ≠ p := by intro z; subst z; exact n.2 hp
      rcases q with q | ⟨o, q⟩
      · exact .inl (by rw [upd_ne hn]; exact q)
      · exact .inr ⟨o, by rw [upd_ne hn]; exact q⟩, n⟩) .inr, RepAs.hw hp r⟩
  | .scr ns, _, ⟨a, e1, t⟩ => ⟨a, e1, t.elim (fun ⟨q, n⟩ => .inl ⟨by
      have hn : a ≠ p := by intro z; subst z; exact n.2 hp
      rcases q with q | ⟨o, q⟩
      · exact .inl (by rw [upd_ne hn]; exact q)
      · exact .inr ⟨o, by rw [upd_ne hn]; exact q⟩, n⟩) .inr⟩
  | .lst xs, _, ⟨a, vs, e1, n, t, r⟩ => ⟨a, vs, e1, n, by
      have hn : a ≠ p := by intro z; subst z; exact n.2 hp
      rw [upd_ne hn]; exact t, RepAs.hw hp r⟩
  | .dct ks xs, _, ⟨a, ws, e1, n, t, ek, r⟩ => ⟨a, ws, e1, n, by
      have hn : a ≠ p := by intro z; subst z; exact n.2 hp
      rcases t with t | ⟨o, t⟩
      · exact .inl (by rw [upd_ne hn]; exact t)
      · exact .inr ⟨o, by rw [upd_ne hn]; exact t⟩, ek, RepAs.hw hp r⟩
  | .ref k, _, h => h
theorem RepAs.hw {K : PySem.W.Frag} {α : Pl} {H : Hp} {p : Addr} {u : HO} (hp : p ∈ α.g) : ∀ {xs : List M} {vs : List V}, RepAs K α H xs vs → RepAs K α (upd H p u) xs vs
  | [], _, h => h
  | x :: xs, _, ⟨v, r, e1, h1, h2⟩ => ⟨v, r, e1, RepA.hw hp h1, RepAs.hw hp h2⟩
end
theorem Rl.hw {K : PySem.W.Frag} {α : Pl} {h : HpM} {H : Hp} {p : Addr} {u : HO} (r : Rl K α h H) (hp : p ∈ α.g) : Rl K α h (upd H p u) :=
  ⟨r.len, r.nd, r.ap, fun b hb => by
    by_cases z : b = p
    · subst z; exact ⟨_, upd_same⟩
    · obtain ⟨o, e⟩ := r.hid b hb
      exact ⟨o, by rw [upd_ne z]; exact e⟩, fun k a o hk ho => by
    have hn : a ≠ p := by intro z; subst z; exact r.ap _ (List.mem_of_getElem? hk) hp
    have q := r.obj k a o hk ho
    cases o with
    | lst xs => obtain ⟨vs, h1, h2⟩ := q; exact ⟨vs, by rw [upd_ne hn]; exact h1, h2.hw hp⟩
    | dct kvs => obtain ⟨ws, h1, h2, h3⟩ := q; exact ⟨ws, by rw [upd_ne hn]; exact h1, h2, h3.hw hp⟩⟩
theorem REnv.hw {K : PySem.W.Frag} {α : Pl} {H : Hp} {ρ : EnvM} {σ : St} {p : Addr} {u : HO} (r : REnv K α H ρ σ) (hp : p ∈ α.g) : REnv K α (upd H p u) ρ σ :=
  ⟨r.1, fun i m h => by obtain ⟨v, h1, h2⟩ := r.2 i m h; exact ⟨v, h1, h2.hw hp⟩⟩
theorem REnv.hide {K : PySem.W.Frag} {α : Pl} {H : Hp} {ρ : EnvM} {σ : St} {p : Addr} (r : REnv K α H ρ σ) (hp : H p = none) : REnv K (α.hide p) H ρ σ :=
  ⟨r.1, fun i m h => by obtain ⟨v, h1, h2⟩ := r.2 i m h; exact ⟨v, h1, h2.hide hp⟩⟩
theorem Rl.lay {K : PySem.W.Frag} {α : Pl} {h : HpM} {H : Hp} {p : Addr} {u : HO} (r : Rl K α h H) (hp : H p = none) : Rl K (α.hide p) h (upd H p u) :=
  have s : Same H (upd H p u) := same_new hp u
  ⟨r.len, r.nd, fun b hb hm => by
    rcases List.mem_cons.mp hm with z | z
    · subst z; exact r.newA hp hb
    · exact r.ap b hb z, fun b hb => by
    rcases List.mem_cons.mp hb with z | z
    · subst z; exact ⟨_, upd_same⟩
    · obtain ⟨o, e⟩ := r.hid b z
      exact ⟨o, s b o e⟩, fun k a o hk ho => by
    have q := r.obj k a o hk ho
    cases o with
    | lst xs => obtain ⟨vs, h1, h2⟩ := q; exact ⟨vs, s _ _ h1, (h2.hide hp).ev (.same s)⟩
    | dct kvs => obtain ⟨ws, h1, h2, h3⟩ := q; exact ⟨ws, s _ _ h1, h2, (h3.hide hp).ev (.same s)⟩⟩
theorem Rl.show {K : PySem.W.Frag} {α : Pl} {h : HpM} {H : Hp} {p : Addr} (r : Rl K (α.hide p) h H) : Rl K α h H :=
  ⟨r.len, r.nd, fun b hb hm => r.ap b hb (List.mem_cons_of_mem _ hm), fun b hb => r.hid b (List.mem_cons_of_mem _ hb), fun k a o hk ho => by
    have q := r.obj k a o hk ho
    cases o with
    | lst xs => obtain ⟨vs, h1, h2⟩ := q; exact ⟨vs, h1, h2.show⟩
    | dct kvs => obtain ⟨ws, h1, h2, h3⟩ := q; exact ⟨ws, h1, h2, h3.show⟩⟩

theorem Ev.unhide {α α' : Pl} {H H' : Hp} {p : Addr} (e : Ev (α.hide p) (α'.hide p) H H') : Ev α α' H H' :=
  ⟨⟨(List.cons.inj e.pre.1).2, e.pre.2⟩, fun b o h q n => e.keep b o h (q.imp id fun z => List.mem_cons_of_mem _ z) n, e.keepD, e.dom⟩
theorem Ev.hw {α α' : Pl} {H H' : Hp} {p : Addr} {u : HO} (e : Ev α α' H H') (hp : H p = none) : Ev α α' H (upd H' p u) :=
  ⟨e.pre, fun b o hb q n => by
    have z : b ≠ p := by intro z; subst z; rw [hp] at hb; cases hb
    rw [upd_ne z]; exact e.keep b o hb q n, fun b ws hb n => by
    have z : b ≠ p := by intro z; subst z; rw [hp] at hb; cases hb
    rcases e.keepD b ws hb n with r | ⟨o, r⟩
    · exact .inl (by rw [upd_ne z]; exact r)
    · exact .inr ⟨o, by rw [upd_ne z]; exact r⟩, fun b hb => by
    by_cases z : b = p
    · subst z; exact hp
    · rw [upd_ne z] at hb; exact e.dom b hb⟩

def tM (K : PySem.W.Frag) (m : FE) : TE := fun σ H Q => ∃ α ρ h d h', REnv K α H ρ σ ∧ Rl K α h H ∧ m ρ h = some (d, h') ∧ ∀ α' H' v, Ev α α' H H' → Rl K α' h' H' → RepA K α' H' d v → Q v H'
def aM (K : PySem.W.Frag) (m : FA) : TA := fun σ H Q => ∃ α ρ h d h', REnv K α H ρ σ ∧ Rl K α h H ∧ m ρ h = some (d, h') ∧ ∀ α' H' v, Ev α α' H H' → Rl K α' h' H' → RepAs K α' H' d v → Q v H'
def bM (K : PySem.W.Frag) (m : FT) : TT := fun σ H Q => ∃ α ρ h d h', REnv K α H ρ σ ∧ Rl K α h H ∧ m ρ h = some (d, h') ∧ ∀ α' H', Ev α α' H H' → Rl K α' h' H' → Q d H'
def Fin (K : PySem.W.Frag) (D : Ends) (α' : Pl) (H' : Hp) : Out → Prop
  | .nx ρ => ∀ σ, REnv K α' H' ρ σ → D.nx σ H'
  | .bk ρ => ∀ σ, REnv K α' H' ρ σ → D.bk σ H'
  | .ct ρ => ∀ σ, REnv K α' H' ρ σ → D.ct σ H'
  | .rt d => ∀ v, RepA K α' H' d v → D.rt v H'
def sM (K : PySem.W.Frag) (m : FS) : TS := fun D σ H => ∃ α ρ h o h', REnv K α H ρ σ ∧ Rl K α h H ∧ m ρ h = some (o, h') ∧ ∀ α' H', Ev α α' H H' → Rl K α' h' H' → Fin K D α' H' o
def gM (K : PySem.W.Frag) (m : FG) : TG := fun v σ H Q => ∃ α ρ h x ρ' h', REnv K α H ρ σ ∧ Rl K α h H ∧ RepA K α H x v ∧ m x ρ h = some (ρ', h') ∧ ∀ α' H' σ', Ev α α' H H' → Rl K α' h' H' → REnv K α' H' ρ' σ' → Q σ' H'
abbrev FGs := List M → EnvM → HpM → Option (EnvM × HpM)
def spM (K : PySem.W.Frag) (m : FF) : Sp := fun vs H Q _ => ∃ α h ds d h', RepAs K α H ds vs ∧ Rl K α h H ∧ m ds h = some (d, h') ∧ ∀ α' H' v, Ev α α' H H' → Rl K α' h' H' → RepA K α' H' d v → Q v H'
section
variable {X : Cx}
theorem PE.imp {e : Expr} {t t' : TE} (h : PE X e t) (i : ∀ σ H Q, t' σ H Q → t σ H Q) : PE X e t' := fun pins s σ H Q I q => h pins s σ H Q I (i σ H Q q)
theorem PT.imp {e : Expr} {t t' : TT} (h : PT X e t) (i : ∀ σ H Q, t' σ H Q → t σ H Q) : PT X e t' := fun pins s σ H Q I q => h pins s σ H Q I (i σ H Q q)
theorem PW.imp {e : Expr} {t t' : TT} (h : PW X e t) (i : ∀ σ H Q, t' σ H Q → t σ H Q) : PW X e t' := fun wh pins s σ H Q I q => h wh pins s σ H Q I (i σ H Q q)
theorem PA.imp {e : List Expr} {t t' : TA} (h : PA X e t) (i : ∀ σ H Q, t' σ H Q → t σ H Q) : PA X e t' := fun pos pins s σ H Q I q => h pos pins s σ H Q I (i σ H Q q)
theorem PS.imp {e : Stmt} {t t' : TS} (h : PS X e t) (i : ∀ D σ H, t' D σ H → t D σ H) : PS X e t' := fun pins s σ H D I q => h pins s σ H D I (i D σ H q)
theorem PSs.imp {e : List Stmt} {t t' : TS} (h : PSs X e t) (i : ∀ D σ H, t' D σ H → t D σ H) : PSs X e t' := fun pins s σ H D I q => h pins s σ H D I (i D σ H q)
theorem PG.imp {e : Expr} {t t' : TG} (h : PG X e t) (i : ∀ v σ H Q, t' v σ H Q → t v σ H Q) : PG X e t' := fun pins s σ H v u Q I r q => h pins s σ H v u Q I r (i v σ H Q q)
end
def bnd {a b : Type} (x : Option (a × HpM)) (f : a → HpM → Option b) : Option b := match x with | some (y, h) => f y h | none => none
theorem bnd_inv {a b : Type} {x : Option (a × HpM)} {f : a → HpM → Option b} {r : b} (e : bnd x f = some r) : ∃ y h, x = some (y, h) ∧ f y h = some r := by
  unfold bnd at e
  split at e
  · exact ⟨_, _, rfl, e⟩
  · cases e
end L2
namespace L2
open PySem PySem.Spec PyProof.Rows
def mC (d : M) : FE := fun _ h => some (d, h)
def mVar (i : Nat) : FE := fun ρ h => match ρ[i]? with | some (some m) => some (m, h) | _ => none
def mNil : FA := fun _ h => some ([], h)
def mCons (a : FE) (r : FA) : FA := fun ρ h => bnd (a ρ h) fun x h1 => bnd (r ρ h1) fun xs h2 => some (x :: xs, h2)
def mTup (a : FA) : FE := fun ρ h => bnd (a ρ h) fun xs h1 => if xs.length ≤ 16777216 then some (.tup xs, h1) else none
def mLst (a : FA) : FE := fun ρ h => bnd (a ρ h) fun xs h1 => if xs.length ≤ 16777216 then some (.lst xs, h1) else none
def mLstH (a : FA) : FE := fun ρ h => bnd (a ρ h) fun xs h1 => if xs.length ≤ 16777216 then some (.ref h1.length, h1 ++ [.lst xs]) else none
def mOp (f : M → M → HpM → Option M) (a b : FE) : FE := fun ρ h => bnd (a ρ h) fun x h1 => bnd (b ρ h1) fun y h2 => (f x y h2).map (·, h2)
def mUn (f : M → HpM → Option M) (a : FE) : FE := fun ρ h => bnd (a ρ h) fun x h1 => (f x h1).map (·, h1)
def mCB (f : List M → HpM → Option M) (a : FA) : FE := fun ρ h => bnd (a ρ h) fun xs h1 => (f xs h1).map (·, h1)
def mCall (f : FF) (a : FA) : FE := fun ρ h => bnd (a ρ h) fun xs h1 => f xs h1
def asB {a : Type} (x : M) (f : Bool → Option a) : Option a := match x with | .bl b => f b | _ => none
def mAnd (a b : FE) : FE := fun ρ h => bnd (a ρ h) fun x h1 => asB x fun c => if c = true then b ρ h1 else some (.bl false, h1)
def mOr (a b : FE) : FE := fun ρ h => bnd (a ρ h) fun x h1 => asB x fun c => if c = true then some (.bl true, h1) else b ρ h1
def mNot (a : FE) : FE := fun ρ h => bnd (a ρ h) fun x h1 => asB x fun c => some (.bl (!c), h1)
def mChain (f g : M → M → HpM → Option M) (a b c : FE) : FE := fun ρ h => bnd (a ρ h) fun x h1 => bnd (b ρ h1) fun y h2 => (f x y h2).bind fun z => asB z fun k => if k = true then bnd (c ρ h2) fun w h3 => (g y w h3).map (·, h3) else some (.bl false, h2)
def mChain3 (f g g' : M → M → HpM → Option M) (a b c d : FE) : FE := fun ρ h => bnd (a ρ h) fun x h1 => bnd (b ρ h1) fun y h2 => (f x y h2).bind fun z => asB z fun k => if k = true then
  bnd (c ρ h2) fun w h3 => (g y w h3).bind fun z => asB z fun k => if k = true then bnd (d ρ h3) fun u h4 => (g' w u h4).map (·, h4) else some (.bl false, h3) else some (.bl false, h2)
def tV (a : FE) : FT := fun ρ h => bnd (a ρ h) fun x h1 => asB x fun c => some (c, h1)
def tAndM (a b : FT) : FT := fun ρ h => bnd (a ρ h) fun c h1 => if c = true then b ρ h1 else some (false, h1)
def tOrM (a b : FT) : FT := fun ρ h => bnd (a ρ h) fun c h1 => if c = true then some (true, h1) else b ρ h1
def tNotM (a : FT) : FT := fun ρ h => bnd (a ρ h) fun c h1 => some (!c, h1)
theorem asB_inv {a : Type} {x : M} {f : Bool → Option a} {r : a} (e : asB x f = some r) : ∃ b, x = .bl b ∧ f b = some r := by
  cases x <;> first | exact ⟨_, rfl, e⟩ | cases e
theorem map_inv {a : Type} {x : Option a} {h : HpM} {r : a × HpM} (e : x.map (·, h) = some r) : x = some r.1 ∧ r.2 = h := by
  cases x with
  | none => cases e
  | some y => cases e; exact ⟨rfl, rfl⟩
def OpM (K : PySem.W.Frag) (r : R2) (f : M → M → HpM → Option M) : Prop := ∀ (α : Pl) (h : HpM) (H : Hp) (x y d : M) (u v : V) (Q : VK), Rl K α h H → RepA K α H x u → RepA K α H y v → f x y h = some d → (∀ H' w, Same H H' → RepA K α H' d w → Q w H') → r u v H Q
def CallM (K : PySem.W.Frag) (r : List V → Hp → VK → Prop) (f : List M → HpM → Option M) : Prop := ∀ (α : Pl) (h : HpM) (H : Hp) (xs : List M) (d : M) (us : List V) (Q : VK), Rl K α h H → RepAs K α H xs us → f xs h = some d → (∀ H' w, Same H H' → RepA K α H' d w → Q w H') → r us H Q
section
variable {X : Cx} {a b c e : Expr} {es : List Expr} {ma mb mc me : FE} {mas : FA} {ta tb : FT} {pos p : Pos}
theorem me_C {v : V} {d : M} (h : PE X e (tC v)) (r : ∀ α H, RepA X.K α H d v) : PE X e (tM X.K (mC d)) := h.imp fun σ H Q ⟨α, ρ, h, d', h', hσ, hr, e, k⟩ => by
  cases e
  exact k α H v .refl hr (r α H)
theorem me_int {i j pos} : PE X (.Constant (.int i) j pos) (tM X.K (mC (.int i))) := me_C pe_int fun _ _ => rfl
theorem me_bl {b j pos} : PE X (.Constant (.bool b) j pos) (tM X.K (mC (.bl b))) := me_C pe_bl fun _ _ => rfl
theorem me_non {j pos} : PE X (.Constant .none j pos) (tM X.K (mC .non)) := me_C pe_non fun _ _ => rfl
theorem me_str {x j pos} : PE X (.Constant (.str x) j pos) (tM X.K (mC (.str x))) := me_C pe_str fun _ _ => rfl
theorem me_var {i : Nat} (h : PE X e (tVar i)) : PE X e (tM X.K (mVar i)) := h.imp fun σ H Q ⟨α, ρ, h, d', h', hσ, hr, e, k⟩ => by
  unfold mVar at e
  split at e
  · rename_i m em
    cases e
    obtain ⟨v, h1, h2⟩ := hσ.2 i _ em
    exact ⟨v, h1, k α H v .refl hr h2⟩
  · cases e
theorem ma_nil : PA X [] (aM X.K mNil) := pa_nil.imp fun σ H Q ⟨α, ρ, h, d', h', hσ, hr, e, k⟩ => by
  cases e
  exact k α H [] .refl hr rfl
theorem ma_cons (ha : PE X e (tM X.K ma)) (hr : PA X es (aM X.K mas)) (h : notStar e = true) : PA X (e :: es) (aM X.K (mCons ma mas)) := (pa_c ha hr h).imp fun σ H Q ⟨α, ρ, h, d', h', hσ, hr, e, k⟩ => by
  obtain ⟨x, h1, e1, e⟩ := bnd_inv e
  obtain ⟨xs, h2, e2, e⟩ := bnd_inv e
  cases e
  exact ⟨α, ρ, h, x, h1, hσ, hr, e1, fun α1 H1 u ev1 hr1 rx => ⟨α1, ρ, h1, xs, _, hσ.ev ev1, hr1, e2, fun α2 H2 us ev2 hr2 rs => k α2 H2 _ (ev1.trans ev2) hr2 ⟨u, us, rfl, rx.ev ev2, rs⟩⟩⟩
theorem me_tup {x1} (h : PA X es (aM X.K mas)) : PE X (.Tuple es x1 pos) (tM X.K (mTup mas)) := (pe_tup h).imp fun σ H Q ⟨α, ρ, h, d', h', hσ, hr, e, k⟩ => by
  obtain ⟨xs, h1, e1, e⟩ := bnd_inv e
  split at e
  · rename_i hl
    cases e
    refine ⟨α, ρ, h, xs, _, hσ, hr, e1, fun α1 H1 us ev1 hr1 rs => ⟨by rw [← rs.length, sizeLine_eq]; exact hl, fun p hp => ?_⟩⟩
    have s := same_new hp (.tup us)
    exact k α1 _ _ (ev1.trans (.same s)) (hr1.same s) ⟨p, us, rfl, .inl ⟨.inl upd_same, hr1.new hp⟩, rs.ev (.same s)⟩
  · cases e
theorem me_lst (h : PA X es (aM X.K mas)) : PE X (.List es pos) (tM X.K (mLst mas)) := (pe_lst h).imp fun σ H Q ⟨α, ρ, h, d', h', hσ, hr, e, k⟩ => by
  obtain ⟨xs, h1, e1, e⟩ := bnd_inv e
  split at e
  · rename_i hl
    cases e
    refine ⟨α, ρ, h, xs, _, hσ, hr, e1, fun α1 H1 us ev1 hr1 rs => ⟨by rw [← rs.length, sizeLine_eq]; exact hl, fun p hp => ?_⟩⟩
    have s := same_new hp (.lst us)
    exact k α1 _ _ (ev1.trans (.same s)) (hr1.same s) ⟨p, us, rfl, hr1.new hp, upd_same, rs.ev (.same s)⟩
  · cases e
theorem me_lstH (h : PA X es (aM X.K mas)) : PE X (.List es pos) (tM X.K (mLstH mas)) := (pe_lst h).imp fun σ H Q ⟨α, ρ, h, d', h', hσ, hr, e, k⟩ => by
  obtain ⟨xs, h1, e1, e⟩ := bnd_inv e
  split at e
  · rename_i hl
    cases e
    refine ⟨α, ρ, h, xs, h1, hσ, hr, e1, fun α1 H1 us ev1 hr1 rs => ⟨by rw [← rs.length, sizeLine_eq]; exact hl, fun p hp => ?_⟩⟩
    have ea : Ev α1 (α1.add p) H1 (upd H1 p (.lst us)) := .alloc hp
    exact k (α1.add p) _ _ (ev1.trans ea) (hr1.alloc hp ⟨us, upd_same, rs.ev ea⟩) ⟨p, by rw [← hr1.len]; simp [Pl.add], rfl⟩
  · cases e
theorem me_op {op : Operator} {r : R2} {f : M → M → HpM → Option M} (ho : OpR X (binaryOp op) r) (hf : OpM X.K r f) (ha : PE X a (tM X.K ma)) (hb : PE X b (tM X.K mb)) : PE X (.BinOp a op b pos) (tM X.K (mOp f ma mb)) := (pe_op ho ha hb).imp fun σ H Q ⟨α, ρ, h, d, h', hσ, hr, e, k⟩ => by
  obtain ⟨x, h1, e1, e⟩ := bnd_inv e
  obtain ⟨y, h2, e2, e⟩ := bnd_inv e
  obtain ⟨e3, e4⟩ := map_inv e
  dsimp only at e3 e4
  subst e4
  exact ⟨α, ρ, h, x, h1, hσ, hr, e1, fun α1 H1 u ev1 hr1 rx => ⟨α1, ρ, h1, y, _, hσ.ev ev1, hr1, e2, fun α2 H2 v ev2 hr2 ry =>
    hf α2 _ H2 x y d u v Q hr2 (rx.ev ev2) ry e3 fun H3 w s rw => k α2 H3 w ((ev1.trans ev2).trans (.same s)) (hr2.same s) rw⟩⟩
theorem me_cmp {op : CmpOp} {r : R2} {f : M → M → HpM → Option M} (ho : OpR X (compareOp op) r) (hf : OpM X.K r f) (ha : PE X a (tM X.K ma)) (hb : PE X b (tM X.K mb)) (hm : behindInMarks op b = false) : PE X (.Compare a [op] [b] pos) (tM X.K (mOp f ma mb)) := (pe_cmpR ho ha hb hm).imp fun σ H Q ⟨α, ρ, h, d, h', hσ, hr, e, k⟩ => by
  obtain ⟨x, h1, e1, e⟩ := bnd_inv e
  obtain ⟨y, h2, e2, e⟩ := bnd_inv e
  obtain ⟨e3, e4⟩ := map_inv e
  dsimp only at e3 e4
  subst e4
  exact ⟨α, ρ, h, x, h1, hσ, hr, e1, fun α1 H1 u ev1 hr1 rx => ⟨α1, ρ, h1, y, _, hσ.ev ev1, hr1, e2, fun α2 H2 v ev2 hr2 ry =>
    hf α2 _ H2 x y d u v Q hr2 (rx.ev ev2) ry e3 fun H3 w s rw => k α2 H3 w ((ev1.trans ev2).trans (.same s)) (hr2.same s) rw⟩⟩
theorem mt_cmp {op : CmpOp} {r : R2} {f : M → M → HpM → Option M} (ho : OpR X (compareOp op) r) (hf : OpM X.K r f) (ha : PE X a (tM X.K ma)) (hb : PE X b (tM X.K mb)) (hm : behindInMarks op b = false) : PT X (.Compare a [op] [b] pos) (bM X.K (tV (mOp f ma mb))) := (pt_cmpR ho ha hb hm).imp fun σ H Q ⟨α, ρ, h, d, h', hσ, hr, e, k⟩ => by
  obtain ⟨z, h0, e0, e⟩ := bnd_inv e
  obtain ⟨q, rfl, e⟩ := asB_inv e
  cases e
  obtain ⟨x, h1, e1, e⟩ := bnd_inv e0
  obtain ⟨y, h2, e2, e⟩ := bnd_inv e
  obtain ⟨e3, e4⟩ := map_inv e
  dsimp only at e3 e4
  subst e4
  exact ⟨α, ρ, h, x, h1, hσ, hr, e1, fun α1 H1 u ev1 hr1 rx => ⟨α1, ρ, h1, y, _, hσ.ev ev1, hr1, e2, fun α2 H2 v ev2 hr2 ry =>
    hf α2 _ H2 x y _ u v _ hr2 (rx.ev ev2) ry e3 fun H3 w s rw => ⟨d, rw, k α2 H3 ((ev1.trans ev2).trans (.same s)) (hr2.same s)⟩⟩⟩
theorem me_chain {op op' : CmpOp} {r r' : R2} {f f' : M → M → HpM → Option M} (ho : OpR X (compareOp op) r) (hf : OpM X.K r f) (ho' : OpR X (compareOp op') r') (hf' : OpM X.K r' f') (ha : PE X a (tM X.K ma)) (hb : PE X b (tM X.K mb)) (hc : PE X c (tM X.K mc)) (hm : lastMarks [op, op'] [b, c] = false) :
    PE X (.Compare a [op, op'] [b, c] pos) (tM X.K (mChain f f' ma mb mc)) := (pe_chain ho ho' ha hb hc hm).imp fun σ H Q ⟨α, ρ, h, d, h', hσ, hr, e, k⟩ => by
  obtain ⟨x, h1, e1, e⟩ := bnd_inv e
  obtain ⟨y, h2, e2, e⟩ := bnd_inv e
  obtain ⟨z, e3, e⟩ := Option.bind_eq_some_iff.mp e
  obtain ⟨q, rfl, e⟩ := asB_inv e
  refine ⟨α, ρ, h, x, h1, hσ, hr, e1, fun α1 H1 u ev1 hr1 rx => ⟨α1, ρ, h1, y, h2, hσ.ev ev1, hr1, e2, fun α2 H2 v ev2 hr2 ry =>
    hf α2 _ H2 x y _ u v _ hr2 (rx.ev ev2) ry e3 fun H3 w s rw => ⟨q, rw, ?_⟩⟩⟩
  have hr3 := hr2.same s
  have ev3 := (ev1.trans ev2).trans (Ev.same (α := α2) s)
  cases q with
  | false => cases e; exact k α2 H3 _ ev3 hr3 rfl
  | true =>
    obtain ⟨w', h4, e4, e⟩ := bnd_inv e
    obtain ⟨e5, e6⟩ := map_inv e
    dsimp only at e5 e6
    subst e6
    exact ⟨α2, ρ, h2, w', _, hσ.ev ev3, hr3, e4, fun α4 H4 v4 ev4 hr4 r4 => hf' α4 _ H4 y w' _ v v4 _ hr4 ((ry.ev (.same s)).ev ev4) r4 e5 fun H5 w5 s5 r5 => k α4 H5 w5 ((ev3.trans ev4).trans (.same s5)) (hr4.same s5) r5⟩
theorem mt_val {t : FE} (h : PE X e (tM X.K t)) (he : ∀ whole, isTrue e X.env whole = (do let v ← whole; standAt e.pos; holding [v] (truthy v))) : PT X e (bM X.K (tV t)) := (pt_val h he).imp fun σ H Q ⟨α, ρ, h, d, h', hσ, hr, e, k⟩ => by
  obtain ⟨z, h0, e0, e⟩ := bnd_inv e
  obtain ⟨q, rfl, e⟩ := asB_inv e
  cases e
  exact ⟨α, ρ, h, _, _, hσ, hr, e0, fun α1 H1 u ev1 hr1 rx => ⟨d, rx, k α1 H1 ev1 hr1⟩⟩
theorem mt_chain {op op' : CmpOp} {r r' : R2} {f f' : M → M → HpM → Option M} (ho : OpR X (compareOp op) r) (hf : OpM X.K r f) (ho' : OpR X (compareOp op') r') (hf' : OpM X.K r' f') (ha : PE X a (tM X.K ma)) (hb : PE X b (tM X.K mb)) (hc : PE X c (tM X.K mc)) (hm : lastMarks [op, op'] [b, c] = false) :
    PT X (.Compare a [op, op'] [b, c] pos) (bM X.K (tV (mChain f f' ma mb mc))) := (pt_chain ho ho' ha hb hc hm).imp fun σ H Q ⟨α, ρ, h, d, h', hσ, hr, e, k⟩ => by
  obtain ⟨z, h0, e0, e'⟩ := bnd_inv e
  obtain ⟨q0, rfl, e'⟩ := asB_inv e'
  cases e'
  obtain ⟨x, h1, e1, e⟩ := bnd_inv e0
  obtain ⟨y, h2, e2, e⟩ := bnd_inv e
  obtain ⟨z, e3, e⟩ := Option.bind_eq_some_iff.mp e
  obtain ⟨q, rfl, e⟩ := asB_inv e
  refine ⟨α, ρ, h, x, h1, hσ, hr, e1, fun α1 H1 u ev1 hr1 rx => ⟨α1, ρ, h1, y, h2, hσ.ev ev1, hr1, e2, fun α2 H2 v ev2 hr2 ry =>
    hf α2 _ H2 x y _ u v _ hr2 (rx.ev ev2) ry e3 fun H3 w s rw => ⟨q, rw, ?_⟩⟩⟩
  have hr3 := hr2.same s
  have ev3 := (ev1.trans ev2).trans (Ev.same (α := α2) s)
  cases q with
  | false => cases e; exact ⟨false, rfl, k α2 H3 ev3 hr3⟩
  | true =>
    obtain ⟨w', h4, e4, e⟩ := bnd_inv e
    obtain ⟨e5, e6⟩ := map_inv e
    dsimp only at e5 e6
    subst e6
    exact ⟨α2, ρ, h2, w', _, hσ.ev ev3, hr3, e4, fun α4 H4 v4 ev4 hr4 r4 => hf' α4 _ H4 y w' _ v v4 _ hr4 ((ry.ev (.same s)).ev ev4) r4 e5 fun H5 w5 s5 r5 => ⟨d, r5, k α4 H5 ((ev3.trans ev4).trans (.same s5)) (hr4.same s5)⟩⟩
theorem mw_and1 (ha : PT X a (bM X.K ta)) : PW X (.BoolOp .And [a] pos) (bM X.K ta) := pw_and1 ha
theorem mw_or1 (ha : PT X a (bM X.K ta)) : PW X (.BoolOp .Or [a] pos) (bM X.K ta) := pw_or1 ha
theorem mw_and {rest : List Expr} (ha : PT X a (bM X.K ta)) (hb : PW X (.BoolOp .And (b :: rest) pos) (bM X.K tb)) : PW X (.BoolOp .And (a :: b :: rest) pos) (bM X.K (tAndM ta tb)) := (pw_and ha hb).imp fun σ H Q ⟨α, ρ, h, d, h', hσ, hr, e, k⟩ => by
  obtain ⟨z, h0, e0, e⟩ := bnd_inv e
  refine ⟨α, ρ, h, z, h0, hσ, hr, e0, fun α1 H1 ev1 hr1 => ?_⟩
  cases z with
  | false => cases e; exact k α1 H1 ev1 hr1
  | true => exact ⟨α1, ρ, h0, d, h', hσ.ev ev1, hr1, e, fun α2 H2 ev2 hr2 => k α2 H2 (ev1.trans ev2) hr2⟩
theorem mw_or {rest : List Expr} (ha : PT X a (bM X.K ta)) (hb : PW X (.BoolOp .Or (b :: rest) pos) (bM X.K tb)) : PW X (.BoolOp .Or (a :: b :: rest) pos) (bM X.K (tOrM ta tb)) := (pw_or ha hb).imp fun σ H Q ⟨α, ρ, h, d, h', hσ, hr, e, k⟩ => by
  obtain ⟨z, h0, e0, e⟩ := bnd_inv e
  refine ⟨α, ρ, h, z, h0, hσ, hr, e0, fun α1 H1 ev1 hr1 => ?_⟩
  cases z with
  | true => cases e; exact k α1 H1 ev1 hr1
  | false => exact ⟨α1, ρ, h0, d, h', hσ.ev ev1, hr1, e, fun α2 H2 ev2 hr2 => k α2 H2 (ev1.trans ev2) hr2⟩
theorem mt_not (ha : PT X a (bM X.K ta)) : PT X (.UnaryOp .Not a pos) (bM X.K (tNotM ta)) := (pt_not ha).imp fun σ H Q ⟨α, ρ, h, d, h', hσ, hr, e, k⟩ => by
  obtain ⟨z, h0, e0, e⟩ := bnd_inv e
  cases e
  exact ⟨α, ρ, h, z, _, hσ, hr, e0, fun α1 H1 ev1 hr1 => k α1 H1 ev1 hr1⟩
theorem me_one {op} (h : PE X a (tM X.K ma)) : PE X (.BoolOp op [a] pos) (tM X.K ma) := pe_one h
theorem me_and {rest : List Expr} (ha : PE X a (tM X.K ma)) (hb : PE X (.BoolOp .And (b :: rest) pos) (tM X.K mb)) : PE X (.BoolOp .And (a :: b :: rest) pos) (tM X.K (mAnd ma mb)) := (pe_and ha hb).imp fun σ H Q ⟨α, ρ, h, d, h', hσ, hr, e, k⟩ => by
  obtain ⟨z, h0, e0, e⟩ := bnd_inv e
  obtain ⟨q, rfl, e⟩ := asB_inv e
  refine ⟨α, ρ, h, _, h0, hσ, hr, e0, fun α1 H1 u ev1 hr1 ru => ⟨q, ru, ?_⟩⟩
  cases q with
  | false => cases e; exact k α1 H1 _ ev1 hr1 rfl
  | true => exact ⟨α1, ρ, h0, d, h', hσ.ev ev1, hr1, e, fun α2 H2 w ev2 hr2 rw => k α2 H2 w (ev1.trans ev2) hr2 rw⟩
theorem me_or {rest : List Expr} (ha : PE X a (tM X.K ma)) (hb : PE X (.BoolOp .Or (b :: rest) pos) (tM X.K mb)) : PE X (.BoolOp .Or (a :: b :: rest) pos) (tM X.K (mOr ma mb)) := (pe_or ha hb).imp fun σ H Q ⟨α, ρ, h, d, h', hσ, hr, e, k⟩ => by
  obtain ⟨z, h0, e0, e⟩ := bnd_inv e
  obtain ⟨q, rfl, e⟩ := asB_inv e
  refine ⟨α, ρ, h, _, h0, hσ, hr, e0, fun α1 H1 u ev1 hr1 ru => ⟨q, ru, ?_⟩⟩
  cases q with
  | true => cases e; exact k α1 H1 _ ev1 hr1 rfl
  | false => exact ⟨α1, ρ, h0, d, h', hσ.ev ev1, hr1, e, fun α2 H2 w ev2 hr2 rw => k α2 H2 w (ev1.trans ev2) hr2 rw⟩
theorem me_not (ha : PE X a (tM X.K ma)) : PE X (.UnaryOp .Not a pos) (tM X.K (mNot ma)) := (pe_not ha).imp fun σ H Q ⟨α, ρ, h, d, h', hσ, hr, e, k⟩ => by
  obtain ⟨z, h0, e0, e⟩ := bnd_inv e
  obtain ⟨q, rfl, e⟩ := asB_inv e
  cases e
  exact ⟨α, ρ, h, _, _, hσ, hr, e0, fun α1 H1 u ev1 hr1 ru => ⟨q, ru, k α1 H1 _ ev1 hr1 rfl⟩⟩
section
variable {CX : CXT} {n : Nat} {f : Addr} {fd : FuncData} {ps : List Str} {m : FF} {E : XK} {id T : String} {r : List V → Hp → VK → Prop} {g : List M → HpM → Option M} {x : Str}
theorem me_call (F : FnOk X.prog X.w X.K X.mg X.base CX n f fd ps (spM X.K m)) (hr : Room n X.A) (q : NmOk X.env.scope x .globalImplicit) (hm : X.mg x = some (.ref f)) (hk : PySem.W.keepIn X.K (.ref f) = true) (hb : Binds X.K fd ps []) (hx : Passes CX X E)
    (ha : PA X (e :: es) (aM X.K mas)) (he : notStar e = true) (hpl : (backTo pos (starEach es X.env)).any (·.1) = false) : PE X (.Call (.Name x p) (e :: es) [] pos) (tM X.K (mCall m mas)) :=
  (pe_callk F hr q hm hk hb .nil hx ha he hpl).imp fun σ H Q ⟨α, ρ, h, d, h', hσ, hr, e, k⟩ => by
  obtain ⟨xs, h0, e0, e⟩ := bnd_inv e
  exact ⟨α, ρ, h, xs, h0, hσ, hr, e0, fun α1 H1 us ev1 hr1 rs => ⟨α1, h0, xs, d, h', by rw [List.append_nil]; exact rs, hr1, e, fun α2 H2 w ev2 hr2 rw => k α2 H2 w (ev1.trans ev2) hr2 rw⟩⟩
theorem me_CB (hc : CallR X (.builtin id) r) (hg : CallM X.K r g) (q : NmOk X.env.scope x .globalImplicit) (hm : X.mg x = none) (hv : bootBuiltins x = some (.builtin id)) (ha : PA X (e :: es) (aM X.K mas)) (he : notStar e = true) (hpl : (backTo pos (starEach es X.env)).any (·.1) = false) :
    PE X (.Call (.Name x p) (e :: es) [] pos) (tM X.K (mCB g mas)) := (pe_callBk hc q hm hv ha he hpl).imp fun σ H Q ⟨α, ρ, h, d, h', hσ, hr, e, k⟩ => by
  obtain ⟨xs, h0, e0, e⟩ := bnd_inv e
  obtain ⟨e5, e6⟩ := map_inv e
  dsimp only at e5 e6
  subst e6
  exact ⟨α, ρ, h, xs, _, hσ, hr, e0, fun α1 H1 us ev1 hr1 rs => hg α1 _ H1 xs d us Q hr1 rs e5 fun H2 w s rw => k α1 H2 w (ev1.trans (.same s)) (hr1.same s) rw⟩
theorem me_CTy (hc : CallR X (.type T) r) (hg : CallM X.K r g) (q : NmOk X.env.scope x .globalImplicit) (hm : X.mg x = none) (hv : bootBuiltins x = some (.type T)) (ha : PA X (e :: es) (aM X.K mas)) (he : notStar e = true) (hpl : (backTo pos (starEach es X.env)).any (·.1) = false) :
    PE X (.Call (.Name x p) (e :: es) [] pos) (tM X.K (mCB g mas)) := (pe_callTyk hc q hm hv ha he hpl).imp fun σ H Q ⟨α, ρ, h, d, h', hσ, hr, e, k⟩ => by
  obtain ⟨xs, h0, e0, e⟩ := bnd_inv e
  obtain ⟨e5, e6⟩ := map_inv e
  dsimp only at e5 e6
  subst e6
  exact ⟨α, ρ, h, xs, _, hσ, hr, e0, fun α1 H1 us ev1 hr1 rs => hg α1 _ H1 xs d us Q hr1 rs e5 fun H2 w s rw => k α1 H2 w (ev1.trans (.same s)) (hr1.same s) rw⟩
end
theorem me_ix {r : R2} {f : M → M → HpM → Option M} (ho : IxR X r) (hf : OpM X.K r f) (ha : PE X a (tM X.K ma)) (hb : PE X b (tM X.K mb)) (hs : PlainIx b) : PE X (.Subscript a b pos) (tM X.K (mOp f ma mb)) := (pe_ix ho ha hb hs).imp fun σ H Q ⟨α, ρ, h, d, h', hσ, hr, e, k⟩ => by
  obtain ⟨x, h1, e1, e⟩ := bnd_inv e
  obtain ⟨y, h2, e2, e⟩ := bnd_inv e
  obtain ⟨e3, e4⟩ := map_inv e
  dsimp only at e3 e4
  subst e4
  exact ⟨α, ρ, h, x, h1, hσ, hr, e1, fun α1 H1 u ev1 hr1 rx => ⟨α1, ρ, h1, y, _, hσ.ev ev1, hr1, e2, fun α2 H2 v ev2 hr2 ry =>
    hf α2 _ H2 x y d u v Q hr2 (rx.ev ev2) ry e3 fun H3 w s rw => k α2 H3 w ((ev1.trans ev2).trans (.same s)) (hr2.same s) rw⟩⟩
abbrev FO := EnvM → HpM → Option (Option Int × HpM)
def oM (K : PySem.W.Frag) (m : FO) : TO := fun σ H Q => ∃ α ρ h d h', REnv K α H ρ σ ∧ Rl K α h H ∧ m ρ h = some (d, h') ∧ ∀ α' H', Ev α α' H H' → Rl K α' h' H' → Q d H'
def oNo : FO := fun _ h => some (none, h)
def oSome (a : FE) : FO := fun ρ h => bnd (a ρ h) fun x h1 => match x with | .int i => some (some i, h1) | _ => none
theorem PO.imp {e : Option Expr} {t t' : TO} (h : PO X e t) (i : ∀ σ H Q, t' σ H Q → t σ H Q) : PO X e t' := fun pins s σ H Q I q => h pins s σ H Q I (i σ H Q q)
theorem mo_none : PO X none (oM X.K oNo) := po_none.imp fun σ H Q ⟨α, ρ, h, d, h', hσ, hr, e, k⟩ => by
  cases e
  exact k α H .refl hr
theorem mo_some (ha : PE X a (tM X.K ma)) : PO X (some a) (oM X.K (oSome ma)) := (po_some ha).imp fun σ H Q ⟨α, ρ, h, d, h', hσ, hr, e, k⟩ => by
  obtain ⟨x, h1, e1, e⟩ := bnd_inv e
  split at e
  · cases e
    exact ⟨α, ρ, h, _, _, hσ, hr, e1, fun α1 H1 u ev1 hr1 ru => ⟨_, ru, k α1 H1 ev1 hr1⟩⟩
  · cases e
def SlM (K : PySem.W.Frag) (r : V → Option Int → Option Int → Hp → VK → Prop) (f : M → Option Int → Option Int → HpM → Option M) : Prop := ∀ (α : Pl) (h : HpM) (H : Hp) (x d : M) (lo hi : Option Int) (u : V) (Q : VK), Rl K α h H → RepA K α H x u → f x lo hi h = some d → (∀ H' w, Same H H' → RepA K α H' d w → Q w H') → r u lo hi H Q
def mSl (f : M → Option Int → Option Int → HpM → Option M) (a : FE) (lo hi : FO) : FE := fun ρ h => bnd (a ρ h) fun x h1 => bnd (lo ρ h1) fun l h2 => bnd (hi ρ h2) fun u h3 => (f x l u h3).map (·, h3)
theorem me_slice {lo hi : Option Expr} {p2 : Pos} {r : V → Option Int → Option Int → Hp → VK → Prop} {f : M → Option Int → Option Int → HpM → Option M} {ml mh : FO} (hr : SlR X r) (hf : SlM X.K r f) (he : PE X a (tM X.K ma)) (hl : PO X lo (oM X.K ml)) (hu : PO X hi (oM X.K mh)) :
    PE X (.Subscript a (.Slice lo hi none p2) pos) (tM X.K (mSl f ma ml mh)) := (pe_slice hr he hl hu).imp fun σ H Q ⟨α, ρ, h, d, h', hσ, hr, e, k⟩ => by
  obtain ⟨x, h1, e1, e⟩ := bnd_inv e
  obtain ⟨l, h2, e2, e⟩ := bnd_inv e
  obtain ⟨u, h3, e3, e⟩ := bnd_inv e
  obtain ⟨e5, e6⟩ := map_inv e
  dsimp only at e5 e6
  subst e6
  exact ⟨α, ρ, h, x, h1, hσ, hr, e1, fun α1 H1 v ev1 hr1 rx => ⟨α1, ρ, h1, l, h2, hσ.ev ev1, hr1, e2, fun α2 H2 ev2 hr2 => ⟨α2, ρ, h2, u, _, hσ.ev (ev1.trans ev2), hr2, e3, fun α3 H3 ev3 hr3 =>
    hf α3 _ H3 x d l u v Q hr3 ((rx.ev ev2).ev ev3) e5 fun H4 w s rw => k α3 H4 w (((ev1.trans ev2).trans ev3).trans (.same s)) (hr3.same s) rw⟩⟩⟩
end
end L2
namespace L2
open PySem PySem.Spec PyProof.Rows
def sNext : FS := fun ρ h => some (.nx ρ, h)
def sRet (a : FE) : FS := fun ρ h => bnd (a ρ h) fun x h1 => some (.rt x, h1)
def sSeq (a b : FS) : FS := fun ρ h => bnd (a ρ h) fun o h1 => match o with | .nx ρ' => b ρ' h1 | o => some (o, h1)
def sIf (c : FT) (a b : FS) : FS := fun ρ h => bnd (c ρ h) fun c h1 => if c = true then a ρ h1 else b ρ h1
def gNm (i : Nat) : FG := fun x ρ h => some (ρ.set i (some x), h)
def gsNil : FGs := fun xs ρ h => match xs with | [] => some (ρ, h) | _ => none
def gsCons (g : FG) (gs : FGs) : FGs := fun xs ρ h => match xs with | x :: r => bnd (g x ρ h) fun ρ' h' => gs r ρ' h' | [] => none
def gTp (n : Nat) (gs : FGs) : FG := fun x ρ h => match x with | .tup xs => if xs.length = n then gs xs ρ h else none | _ => none
def sAsg (a : FE) (g : FG) : FS := fun ρ h => bnd (a ρ h) fun x h1 => bnd (g x ρ h1) fun ρ' h2 => some (.nx ρ', h2)
abbrev FI := EnvM → HpM → Option ((List M × Option Nat) × HpM)
def okS (xs : List M) (k : Option Nat) (h : HpM) : Prop := match k with | none => True | some k => h[k]? = some (.lst xs)
section
open Classical
noncomputable def mLoop (xs : List M) (k : Option Nat) (b : M → FS) : List M → EnvM → HpM → Option (Out × HpM)
  | [], ρ, h => if okS xs k h then some (.nx ρ, h) else none
  | x :: r, ρ, h => if okS xs k h then bnd (b x ρ h) fun o h1 => match o with
      | .nx ρ' => mLoop xs k b r ρ' h1
      | .ct ρ' => mLoop xs k b r ρ' h1
      | .bk ρ' => some (.nx ρ', h1)
      | .rt d => some (.rt d, h1)
    else none
noncomputable def mComps (xs : List M) (k : Option Nat) (g : FG) (c : FT) (e : FE) (τ : EnvM) : List M → HpM → Option (List M × HpM)
  | [], h => if okS xs k h then some ([], h) else none
  | x :: r, h => if okS xs k h then bnd (g x τ h) fun τ' h1 => bnd (c τ' h1) fun t h2 => if t = true then bnd (e τ' h2) fun y h3 => bnd (mComps xs k g c e τ r h3) fun ys h4 => some (y :: ys, h4) else mComps xs k g c e τ r h2
    else none
end
noncomputable def sFor (i : FI) (g : FG) (b : FS) : FS := fun ρ h => bnd (i ρ h) fun s h1 => mLoop s.1 s.2 (fun x ρ h => bnd (g x ρ h) fun ρ' h' => b ρ' h') s.1 ρ h1
def tauM (ix : List (Option Nat)) (ρ : EnvM) : EnvM := ix.map fun o => match o with | none => none | some j => (ρ[j]?).join
noncomputable def mComp (ix : List (Option Nat)) (i : FI) (g : FG) (c : FT) (e : FE) : FE := fun ρ h => bnd (i ρ h) fun s h1 => if s.1.length ≤ 16777216 then bnd (mComps s.1 s.2 g c e (tauM ix ρ) s.1 h1) fun ys h2 => some (.lst ys, h2) else none
def mWhile (c : FT) (b : FS) : Nat → FS
  | 0, _, _ => none
  | n + 1, ρ, h => bnd (c ρ h) fun t h1 => if t = true then bnd (b ρ h1) fun o h2 => match o with
      | .nx ρ' => mWhile c b n ρ' h2
      | .ct ρ' => mWhile c b n ρ' h2
      | .bk ρ' => some (.nx ρ', h2)
      | .rt d => some (.rt d, h2)
    else some (.nx ρ, h1)
def Wk (K : PySem.W.Frag) (α : Pl) (H : Hp) (xs : List M) (k : Option Nat) (J : It) : Prop := ∀ γ : List Addr, (∀ b ∈ γ, H b = none) → ∀ α1 h1 H1, Ev ⟨α.a, γ ++ α.g⟩ α1 H H1 → Rl K α1 h1 H1 → okS xs k h1 → ∀ i : Nat,
  (∀ x, xs[i]? = some x → J.go i H1 ∧ ∀ v H2, J.yld i H1 v H2 → Same H1 H2 ∧ RepA K α1 H2 x v) ∧ (i = xs.length → J.stop i H1)
def iM (K : PySem.W.Frag) (m : FI) : TI := fun σ H R => ∃ α ρ h s h', REnv K α H ρ σ ∧ Rl K α h H ∧ m ρ h = some (s, h') ∧ ∀ α' H' J, Ev α α' H H' → Rl K α' h' H' → Wk K α' H' s.1 s.2 J → R J H'
theorem REnv.set {K : PySem.W.Frag} {α : Pl} {H : Hp} {ρ : EnvM} {σ : St} {i : Nat} {x : M} {v : V} (r : REnv K α H ρ σ) (hx : RepA K α H x v) : REnv K α H (ρ.set i (some x)) (σ.set i (some v)) := by
  refine ⟨by simp [r.1], fun j m hj => ?_⟩
  by_cases e : i = j
  · subst e
    have hl : i < ρ.length := by have := (List.getElem?_eq_some_iff.mp hj).1; simpa using this
    rw [List.getElem?_set_self hl] at hj
    cases hj
    exact ⟨v, by rw [List.getElem?_set_self (by rw [← r.1]; exact hl)], hx⟩
  · rw [List.getElem?_set_ne e] at hj
    obtain ⟨w, h1, h2⟩ := r.2 j m hj
    exact ⟨w, by rw [List.getElem?_set_ne e]; exact h1, h2⟩
theorem REnv.tau {K : PySem.W.Frag} {α : Pl} {H : Hp} {ρ : EnvM} {σ : St} {ix : List (Option Nat)} (r : REnv K α H ρ σ) : REnv K α H (tauM ix ρ) (tau ix σ) := by
  refine ⟨by simp [tauM, L2.tau], fun j m hj => ?_⟩
  unfold tauM at hj
  rw [List.getElem?_map] at hj
  cases e : ix[j]? with
  | none => rw [e] at hj; cases hj
  | some o =>
    rw [e] at hj
    cases o with
    | none => cases hj
    | some q =>
      have hj' : (ρ[q]?).join = some m := Option.some.inj hj
      have hq : ρ[q]? = some (some m) := by
        cases e2 : ρ[q]? with
        | none => rw [e2] at hj'; cases hj'
        | some z => rw [e2] at hj'; exact congrArg some hj'
      obtain ⟨v, h1, h2⟩ := r.2 q m hq
      refine ⟨v, ?_, h2⟩
      unfold L2.tau
      rw [List.getElem?_map, e]
      show some (σ[q]?).join = _
      rw [h1]
      rfl
section
variable {X : Cx} {a b c e o : Expr} {es : List Expr} {ma mb mc me : FE} {mas : FA} {tc : FT} {st : Stmt} {rest : List Stmt} {ms mr : FS} {g : FG} {gs : FGs} {pos p : Pos}
theorem mss_nil : PSs X [] (sM X.K sNext) := pss_nil.imp fun D σ H ⟨α, ρ, h, d, h', hσ, hr, e, k⟩ => by
  cases e
  exact k α H .refl hr σ hσ
theorem mss_one (h : PS X st (sM X.K ms)) : PSs X [st] (sM X.K ms) := pss_one h
theorem mss_cons (h1 : PS X st (sM X.K ms)) (h2 : PSs X rest (sM X.K mr)) : PSs X (st :: rest) (sM X.K (sSeq ms mr)) := (pss_cons h1 h2).imp fun D σ H ⟨α, ρ, h, d, h', hσ, hr, e, k⟩ => by
  obtain ⟨o, h1, e1, e⟩ := bnd_inv e
  refine ⟨α, ρ, h, o, h1, hσ, hr, e1, fun α1 H1 ev1 hr1 => ?_⟩
  cases o with
  | nx ρ' => exact fun σ' hσ' => ⟨α1, ρ', h1, d, h', hσ', hr1, e, fun α2 H2 ev2 hr2 => k α2 H2 (ev1.trans ev2) hr2⟩
  | bk ρ' => cases e; exact k α1 H1 ev1 hr1
  | ct ρ' => cases e; exact k α1 H1 ev1 hr1
  | rt x => cases e; exact k α1 H1 ev1 hr1
theorem ms_ret (he : PE X e (tM X.K me)) : PS X (.Return (some e) pos) (sM X.K (sRet me)) := (ps_ret he).imp fun D σ H ⟨α, ρ, h, d, h', hσ, hr, e, k⟩ => by
  obtain ⟨x, h1, e1, e⟩ := bnd_inv e
  cases e
  exact ⟨α, ρ, h, x, _, hσ, hr, e1, fun α1 H1 v ev1 hr1 rv => k α1 H1 ev1 hr1 v rv⟩
theorem ms_if {s1 s2 : List Stmt} (hc : PT X c (bM X.K tc)) (ha : PSs X s1 (sM X.K ms)) (hb : PSs X s2 (sM X.K mr)) : PS X (.If c s1 s2 pos) (sM X.K (sIf tc ms mr)) := (ps_if hc ha hb).imp fun D σ H ⟨α, ρ, h, d, h', hσ, hr, e, k⟩ => by
  obtain ⟨z, h1, e1, e⟩ := bnd_inv e
  refine ⟨α, ρ, h, z, h1, hσ, hr, e1, fun α1 H1 ev1 hr1 => ?_⟩
  cases z with
  | true => exact ⟨α1, ρ, h1, d, h', hσ.ev ev1, hr1, e, fun α2 H2 ev2 hr2 => k α2 H2 (ev1.trans ev2) hr2⟩
  | false => exact ⟨α1, ρ, h1, d, h', hσ.ev ev1, hr1, e, fun α2 H2 ev2 hr2 => k α2 H2 (ev1.trans ev2) hr2⟩
theorem mg_name {i : Nat} (h : PG X e (gName i)) : PG X e (gM X.K (gNm i)) := h.imp fun v σ H Q ⟨α, ρ, h, x, ρ', h', hσ, hr, rx, e, k⟩ => by
  cases e
  exact k α H _ .refl hr (hσ.set rx)
theorem ms_asg {tg : Expr} (he : PE X e (tM X.K me)) (hg : PG X tg (gM X.K g)) (hs : swapsWithSole [tg] e pos.line X.env = pure false) (hw : swappedStores [tg] e X.env = pure none) (h1 : (assignEach [tg] X.env).map (·.2) = [assign tg X.env]) :
    PS X (.Assign [tg] e pos) (sM X.K (sAsg me g)) := (ps_asg he hg hs hw h1).imp fun D σ H ⟨α, ρ, h, d, h', hσ, hr, e, k⟩ => by
  obtain ⟨x, h1, e1, e⟩ := bnd_inv e
  obtain ⟨ρ1, h2, e2, e⟩ := bnd_inv e
  cases e
  exact ⟨α, ρ, h, x, h1, hσ, hr, e1, fun α1 H1 v ev1 hr1 rv => ⟨α1, ρ, h1, x, ρ1, _, hσ.ev ev1, hr1, rv, e2, fun α2 H2 σ2 ev2 hr2 hσ2 => k α2 H2 (ev1.trans ev2) hr2 σ2 hσ2⟩⟩
theorem ms_set {i : Nat} {x : Str} {pos' : Pos} (hN : X.N.Nodup) (hi : X.N[i]? = some x) (hx : Loc X.env.scope x) (he : PE X e (tM X.K me)) (hs : notComp e = true) (hf : X.fn x = true) :
    PS X (.Assign [.Name x pos'] e pos) (sM X.K (sAsg me (gNm i))) := (ps_setk hN hi hx he hs hf).imp fun D σ H ⟨α, ρ, h, d, h', hσ, hr, e, k⟩ => by
  obtain ⟨x, h1, e1, e⟩ := bnd_inv e
  cases e
  exact ⟨α, ρ, h, x, _, hσ, hr, e1, fun α1 H1 v ev1 hr1 rv => k α1 H1 ev1 hr1 _ ((hσ.ev ev1).set rv)⟩
theorem ms_while {body : List Stmt} (N : Nat) (hp : PassesOwn (model X.prog X.w) X.A X.env X.xe) (hc : PT X c (bM X.K tc)) (hb : PSs X body (sM X.K ms)) : PS X (.While c body [] pos) (sM X.K (mWhile tc ms N)) := (ps_while hp hc hb).imp fun D σ H ⟨α, ρ, h, d, h', hσ, hr, e, k⟩ => by
  refine ⟨fun m σ H => ∃ α ρ h, REnv X.K α H ρ σ ∧ Rl X.K α h H ∧ mWhile tc ms m ρ h = some (d, h') ∧ ∀ α' H', Ev α α' H H' → Rl X.K α' h' H' → Fin X.K D α' H' d, ⟨N, α, ρ, h, hσ, hr, e, k⟩, ?_⟩
  rintro m σ H ⟨α, ρ, h, hσ, hr, e, k⟩
  cases m with
  | zero => cases e
  | succ m =>
    obtain ⟨t, h1, e1, e⟩ := bnd_inv e
    refine ⟨α, ρ, h, t, h1, hσ, hr, e1, fun α1 H1 ev1 hr1 => ?_⟩
    cases t with
    | false => cases e; exact k α1 H1 ev1 hr1 σ (hσ.ev ev1)
    | true =>
      obtain ⟨o, h2, e2, e⟩ := bnd_inv e
      refine ⟨fun σ' H' => ∃ α ρ h, REnv X.K α H' ρ σ' ∧ Rl X.K α h H' ∧ mWhile tc ms m ρ h = some (d, h') ∧ ∀ α' H'', Ev α α' H' H'' → Rl X.K α' h' H'' → Fin X.K D α' H'' d, fun σ' H' q => ⟨m, Nat.lt_succ_self m, q⟩, α1, ρ, h1, o, h2, hσ.ev ev1, hr1, e2, fun α2 H2 ev2 hr2 => ?_⟩
      cases o with
      | nx ρ' => exact fun σ' hσ' => ⟨α2, ρ', h2, hσ', hr2, e, fun α3 H3 ev3 hr3 => k α3 H3 ((ev1.trans ev2).trans ev3) hr3⟩
      | ct ρ' => exact fun σ' hσ' => ⟨α2, ρ', h2, hσ', hr2, e, fun α3 H3 ev3 hr3 => k α3 H3 ((ev1.trans ev2).trans ev3) hr3⟩
      | bk ρ' => cases e; exact fun σ' hσ' => k α2 H2 (ev1.trans ev2) hr2 σ' hσ'
      | rt x => cases e; exact fun v rv => k α2 H2 (ev1.trans ev2) hr2 v rv
theorem ms_for {iter tg : Expr} {body : List Stmt} {mi : FI} (hp : PassesOwn (model X.prog X.w) X.A X.env X.xe) (hc : X.calm = true) (hi : PI X tg iter (iM X.K mi)) (hg : PG X tg (gM X.K g)) (hb : PSs X body (sM X.K ms)) (hs : ∀ x, foldedSetIterable iter X.env x = pure x) :
    PS X (.For tg iter body [] pos) (sM X.K (sFor mi g ms)) := (ps_for hp hc hi hg hb hs).imp fun D σ H ⟨α, ρ, h, d, h', hσ, hr, e, k⟩ => by
  obtain ⟨s, h1, e1, e⟩ := bnd_inv e
  refine ⟨α, ρ, h, s, h1, hσ, hr, e1, fun α1 H1 J ev1 hr1 wk => ?_⟩
  refine ⟨fun i m σ2 H2 => m = s.1.length - i ∧ i ≤ s.1.length ∧ ∃ α2 ρ2 h2, Ev α1 α2 H1 H2 ∧ REnv X.K α2 H2 ρ2 σ2 ∧ Rl X.K α2 h2 H2 ∧ mLoop s.1 s.2 (fun x ρ h => bnd (g x ρ h) fun ρ' h' => ms ρ' h') (s.1.drop i) ρ2 h2 = some (d, h'), ⟨_, rfl, Nat.zero_le _, α1, ρ, h1, .refl, hσ.ev ev1, hr1, e⟩, ?_⟩
  rintro i m σ2 H2 ⟨rfl, hi, α2, ρ2, h2, ev2, hσ2, hr2, e⟩
  by_cases hlt : i < s.1.length
  · right
    rw [List.drop_eq_getElem_cons hlt] at e
    unfold mLoop at e
    split at e
    · rename_i ok
      obtain ⟨go, yl⟩ := (wk [] (by simp) α2 h2 H2 ev2 hr2 ok i).1 s.1[i] (by simp [hlt])
      refine ⟨go, fun σ' H' => ∃ α3 ρ3 h3, Ev α1 α3 H1 H' ∧ REnv X.K α3 H' ρ3 σ' ∧ Rl X.K α3 h3 H' ∧ mLoop s.1 s.2 (fun x ρ h => bnd (g x ρ h) fun ρ' h' => ms ρ' h') (s.1.drop (i + 1)) ρ3 h3 = some (d, h'), fun σ' H' q => ⟨_, by omega, rfl, hlt, q⟩, fun v H3 y => ?_⟩
      obtain ⟨s3, rv⟩ := yl v H3 y
      obtain ⟨o, h4, e4, e⟩ := bnd_inv e
      obtain ⟨ρ5, h5, e5, e4⟩ := bnd_inv e4
      refine ⟨α2, ρ2, h2, _, ρ5, h5, hσ2.ev (.same s3), hr2.same s3, rv, e5, fun α5 H5 σ5 ev5 hr5 hσ5 => ?_⟩
      refine ⟨α5, ρ5, h5, o, h4, hσ5, hr5, e4, fun α6 H6 ev6 hr6 => ?_⟩
      have evA : Ev α1 α6 H1 H6 := ((ev2.trans (.same s3)).trans ev5).trans ev6
      cases o with
      | nx ρ' => exact fun σ' hσ' => ⟨α6, ρ', h4, evA, hσ', hr6, e⟩
      | ct ρ' => exact fun σ' hσ' => ⟨α6, ρ', h4, evA, hσ', hr6, e⟩
      | bk ρ' => cases e; exact fun σ' hσ' => k α6 H6 (ev1.trans evA) hr6 σ' hσ'
      | rt x => cases e; exact fun v rv => k α6 H6 (ev1.trans evA) hr6 v rv
    · cases e
  · left
    have ei : i = s.1.length := by omega
    subst ei
    rw [List.drop_length] at e
    unfold mLoop at e
    split at e
    · rename_i ok
      cases e
      exact ⟨(wk [] (by simp) α2 _ H2 ev2 hr2 ok _).2 rfl, k α2 H2 (ev1.trans ev2) hr2 σ2 hσ2⟩
    · cases e
def CG (K : PySem.W.Frag) (ix : List (Option Nat)) (g0 : TG) (g : FG) : Prop := ∀ (α : Pl) (h : HpM) (H : Hp) (σ σ1 : St) (ρ1 : EnvM) (x : M) (v : V) (ρ' : EnvM) (h' : HpM) (Q : St → Hp → Prop), Kept0 ix σ σ1 → REnv K α H ρ1 σ1 → RepA K α H x v → g x ρ1 h = some (ρ', h') →
  (∀ σ', Kept0 ix σ σ' → REnv K α H ρ' σ' → h' = h → Q σ' H) → g0 v σ1 H Q
def CGs (K : PySem.W.Frag) (ix : List (Option Nat)) (g0 : TGs) (g : FGs) : Prop := ∀ (α : Pl) (h : HpM) (H : Hp) (σ σ1 : St) (ρ1 : EnvM) (x : List M) (v : List V) (ρ' : EnvM) (h' : HpM) (Q : St → Hp → Prop), Kept0 ix σ σ1 → REnv K α H ρ1 σ1 → RepAs K α H x v → g x ρ1 h = some (ρ', h') →
  (∀ σ', Kept0 ix σ σ' → REnv K α H ρ' σ' → h' = h → Q σ' H) → g0 v σ1 H Q
theorem cg_name {K : PySem.W.Frag} {ix : List (Option Nat)} {i : Nat} (hi : ix[i]? = some none) : CG K ix (gName i) (gNm i) := by
  intro α h H σ σ1 ρ1 x v ρ' h' Q kp hσ rx e k
  cases e
  refine k _ ⟨by simp [kp.1], fun q w hq => ?_⟩ (hσ.set rx) rfl
  by_cases z : i = q
  · subst z
    unfold L2.tau at hq
    rw [List.getElem?_map, hi] at hq
    cases hq
  · rw [List.getElem?_set_ne z]; exact kp.2 q w hq
theorem cgs_nil {K : PySem.W.Frag} {ix : List (Option Nat)} : CGs K ix gNil gsNil := by
  intro α h H σ σ1 ρ1 x v ρ' h' Q kp hσ rx e k
  cases x with
  | nil => cases e; exact ⟨rx, k _ kp hσ rfl⟩
  | cons _ _ => cases e
theorem cgs_cons {K : PySem.W.Frag} {ix : List (Option Nat)} {g0 : TG} {gs0 : TGs} {g : FG} {gs : FGs} (h1 : CG K ix g0 g) (h2 : CGs K ix gs0 gs) : CGs K ix (gCons g0 gs0) (gsCons g gs) := by
  intro α h H σ σ1 ρ1 x v ρ' h' Q kp hσ rx e k
  cases x with
  | nil => cases e
  | cons x r =>
    obtain ⟨u, us, rfl, ru, rs⟩ := rx
    obtain ⟨ρ2, h3, e1, e⟩ := bnd_inv e
    exact ⟨u, us, rfl, h1 α h H σ σ1 ρ1 x u ρ2 h3 _ kp hσ ru e1 fun σ2 kp2 hσ2 eh => h2 α h3 H σ σ2 ρ2 r us ρ' h' Q kp2 hσ2 rs e fun σ3 kp3 hσ3 eh3 => k σ3 kp3 hσ3 (eh3.trans eh)⟩
theorem cg_tup {K : PySem.W.Frag} {ix : List (Option Nat)} {n : Nat} {gs0 : TGs} {gs : FGs} (h : CGs K ix gs0 gs) : CG K ix (gTup K n gs0) (gTp n gs) := by
  intro α h0 H σ σ1 ρ1 x v ρ' h' Q kp hσ rx e k
  unfold gTp at e
  split at e
  · split at e
    · rename_i xs hl
      obtain ⟨a, vs, rfl, t, rs⟩ := rx
      exact ⟨a, vs, rfl, t.sq, by rw [← rs.length]; exact hl, h α h0 H σ σ1 ρ1 xs vs ρ' h' Q kp hσ rs e k⟩
    · cases e
  · cases e
theorem PTs.imp {es : List Expr} {t t' : TT} (h : PTs X es t) (i : ∀ σ H Q, t' σ H Q → t σ H Q) : PTs X es t' := fun pins s σ H Q I q => h pins s σ H Q I (i σ H Q q)
def tTrueM : FT := fun _ h => some (true, h)
theorem mts_nil : PTs X [] (bM X.K tTrueM) := pts_nil.imp fun σ H Q ⟨α, ρ, h, d, h', hσ, hr, e, k⟩ => by
  cases e
  exact k α H .refl hr
theorem mts_one (h : PT X c (bM X.K tc)) : PTs X [c] (bM X.K tc) := pts_one h
theorem kept_tau {ix : List (Option Nat)} {σ : St} : Kept0 ix σ (tau ix σ) := ⟨by simp [L2.tau], fun _ _ h => h⟩
theorem comp_reads {K : PySem.W.Frag} {ix : List (Option Nat)} {mi : FI} {g0 : TG} {g : FG} {tc : FT} {me : FE} (cg : CG K ix g0 g) {σ : St} {H : Hp} {Q : VK} (q : tM K (mComp ix mi g tc me) σ H Q) : tComp ix (iM K mi) g0 (bM K tc) (tM K me) σ H Q := by
  obtain ⟨α, ρ, h, d, h', hσ, hr, e, k⟩ := q
  obtain ⟨s, h1, e1, e⟩ := bnd_inv e
  split at e
  · rename_i hl
    obtain ⟨ys, h2, e2, e⟩ := bnd_inv e
    cases e
    refine ⟨α, ρ, h, s, h1, hσ, hr, e1, fun α1 H1 J ev1 hr1 wk D hD => ?_⟩
    have hσ1 := (hσ.ev ev1).tau (ix := ix)
    have hDg : D ∉ α1.g := fun hm => by
      obtain ⟨o, e⟩ := hr1.hid D hm
      rw [hD] at e; cases e
    have hγ : ∀ b ∈ [D], H1 b = none := fun b hb => by rw [List.mem_singleton.mp hb]; exact hD
    refine ⟨fun i m acc H2 => m = s.1.length - i ∧ i ≤ s.1.length ∧ acc.length ≤ i ∧ ∃ a2 h2 zs rs, ys = zs ++ rs ∧ Ev (α1.hide D) (Pl.hide ⟨a2, α1.g⟩ D) H1 H2 ∧ Rl K (Pl.hide ⟨a2, α1.g⟩ D) h2 H2 ∧ REnv K (Pl.hide ⟨a2, α1.g⟩ D) H2 (tauM ix ρ) (tau ix σ) ∧ RepAs K (Pl.hide ⟨a2, α1.g⟩ D) H2 zs acc ∧ mComps s.1 s.2 g tc me (tauM ix ρ) (s.1.drop i) h2 = some (rs, h'),
      ⟨_, rfl, Nat.zero_le _, Nat.zero_le _, α1.a, h1, [], ys, rfl, .same (same_new hD _), hr1.lay hD, (hσ1.hide hD).ev (.same (same_new hD _)), rfl, e2⟩, ?_⟩
    rintro i m acc H2 ⟨rfl, hi, hacc, a2, h2, zs, rs, ey, ev2, hr2, hσ2, rz, e⟩ hDa
    have hDm : D ∈ (Pl.hide ⟨a2, α1.g⟩ D).g := List.mem_cons_self
    have hDn : D ∉ a2 := fun hm => hr2.ap D hm hDm
    by_cases hlt : i < s.1.length
    · right
      rw [List.drop_eq_getElem_cons hlt] at e
      unfold mComps at e
      split at e
      · rename_i ok
        obtain ⟨go, yl⟩ := (wk [D] hγ _ h2 H2 ev2 hr2 ok i).1 s.1[i] (by simp [hlt])
        refine ⟨go, by rw [sizeLine_eq]; omega, fun v H3 y => ?_⟩
        obtain ⟨s3, rv⟩ := yl v H3 y
        obtain ⟨τ', h3, e3, e⟩ := bnd_inv e
        obtain ⟨t, h4, e4, e⟩ := bnd_inv e
        refine cg _ h2 H3 σ (tau ix σ) (tauM ix ρ) _ v τ' h3 _ kept_tau (hσ2.ev (.same s3)) rv e3 fun σ' kp hσ' eh => ⟨kp, ?_⟩
        subst eh
        refine ⟨_, τ', _, t, h4, hσ', hr2.same s3, e4, fun α4 H4 ev4 hr4 => ?_⟩
        have hD4 : H4 D = some (.lst acc) := ev4.keep _ _ (s3 _ _ hDa) (.inl trivial) hDn
        have hg4 : α4.g = D :: α1.g := ev4.pre.1
        have ea4 : α4 = Pl.hide ⟨α4.a, α1.g⟩ D := by cases α4; cases hg4; rfl
        have evA : Ev (α1.hide D) α4 H1 H4 := (ev2.trans (.same s3)).trans ev4
        cases t with
        | false =>
          refine ⟨hD4, _, ?_, rfl, hlt, by omega, α4.a, h4, zs, rs, ey, ?_, ?_, ?_, ?_, e⟩
          · omega
          · rw [← ea4]; exact evA
          · rw [← ea4]; exact hr4
          · rw [← ea4]; exact (hσ2.ev (.same s3)).ev ev4
          · rw [← ea4]; exact (rz.ev (.same s3)).ev ev4
        | true =>
          obtain ⟨y, h5, e5, e⟩ := bnd_inv e
          obtain ⟨rs', h6, e6, e⟩ := bnd_inv e
          cases e
          refine ⟨α4, τ', h4, y, h5, hσ'.ev ev4, hr4, e5, fun α5 H5 w ev5 hr5 rw' => ?_⟩
          have hD4n : D ∉ α4.a := fun hm => hr4.ap D hm (by rw [hg4]; exact List.mem_cons_self)
          have hD5 : H5 D = some (.lst acc) := ev5.keep _ _ hD4 (.inl trivial) hD4n
          have hg5 : α5.g = D :: α1.g := ev5.pre.1.trans hg4
          have hD5m : D ∈ α5.g := by rw [hg5]; exact List.mem_cons_self
          have ea5 : α5 = Pl.hide ⟨α5.a, α1.g⟩ D := by cases α5; cases hg5; rfl
          refine ⟨hD5, _, ?_, rfl, hlt, by simp; omega, α5.a, h5, zs ++ [y], rs', by rw [ey]; simp, ?_, ?_, ?_, ?_, e6⟩
          · omega
          · rw [← ea5]; exact (evA.trans ev5).hw hD
          · rw [← ea5]; exact hr5.hw hD5m
          · rw [← ea5]; exact (((hσ2.ev (.same s3)).ev ev4).ev ev5).hw hD5m
          · rw [← ea5]; exact ((((rz.ev (.same s3)).ev ev4).ev ev5).snoc rw').hw hD5m
      · cases e
    · left
      have ei : i = s.1.length := by omega
      subst ei
      rw [List.drop_length] at e
      unfold mComps at e
      split at e
      · rename_i ok
        cases e
        refine ⟨(wk [D] hγ _ _ H2 ev2 hr2 ok _).2 rfl, k ⟨a2, α1.g⟩ H2 _ (ev1.trans ev2.unhide) hr2.show ⟨D, acc, rfl, ⟨hDn, hDg⟩, hDa, ?_⟩⟩
        rw [ey, List.append_nil]; exact rz.show
      · cases e
  · cases e
theorem me_comp {elt tg iter : Expr} {ifs : List Expr} {scope : Scope} {N' : List Str} {ix : List (Option Nat)} {mi : FI} {g0 : TG}
    (S : CompScope X N' ix scope) (hcalm : X.calm = true) (cg : CG X.K ix g0 g) (hi : PI X tg iter (iM X.K mi))
    (hg : ∀ C s₀ H₀ fp, PG (X.comp scope (clOf X.env.cells scope.names []) C s₀ H₀ fp N') tg g0)
    (ht : ∀ C s₀ H₀ fp, PTs (X.comp scope (clOf X.env.cells scope.names []) C s₀ H₀ fp N') ifs (bM (X.comp scope (clOf X.env.cells scope.names []) C s₀ H₀ fp N').K tc))
    (he : ∀ C s₀ H₀ fp, PE (X.comp scope (clOf X.env.cells scope.names []) C s₀ H₀ fp N') elt (tM (X.comp scope (clOf X.env.cells scope.names []) C s₀ H₀ fp N').K me))
    (hs : ∀ x, foldedSetIterable iter X.env x = pure x) : PE X (.ListComp elt [⟨tg, iter, ifs, 0⟩] scope pos) (tM X.K (mComp ix mi g tc me)) :=
  (pe_comp S hcalm hi hg ht he hs).imp fun σ H Q q => comp_reads cg q
end
end L2
namespace L2
open PySem PySem.Spec PyProof.Rows
section
variable {X : Cx} {a b c e o : Expr} {es : List Expr} {ma mb mc me : FE} {mas : FA} {tc : FT} {st : Stmt} {rest : List Stmt} {ms mr : FS} {g : FG} {gs : FGs} {pos p : Pos}
theorem ms_setC {elt tg iter : Expr} {ifs : List Expr} {scope : Scope} {pos' spos : Pos} {N' : List Str} {ix : List (Option Nat)} {mi : FI} {g0 : TG} {k : Nat} {x : Str}
    (hN : X.N.Nodup) (hk : X.N[k]? = some x) (hx : X.env.scope.names.lookup x = some .local)
    (S : CompScope X N' ix scope) (hcalm : X.calm = true) (cg : CG X.K ix g0 g) (hi : PI X tg iter (iM X.K mi))
    (hg : ∀ C s₀ H₀ fp, PG (X.comp scope (clOf X.env.cells scope.names []) C s₀ H₀ fp N') tg g0)
    (ht : ∀ C s₀ H₀ fp, PTs (X.comp scope (clOf X.env.cells scope.names []) C s₀ H₀ fp N') ifs (bM (X.comp scope (clOf X.env.cells scope.names []) C s₀ H₀ fp N').K tc))
    (he : ∀ C s₀ H₀ fp, PE (X.comp scope (clOf X.env.cells scope.names []) C s₀ H₀ fp N') elt (tM (X.comp scope (clOf X.env.cells scope.names []) C s₀ H₀ fp N').K me))
    (hsw : swapsWith (.ListComp elt [⟨tg, iter, ifs, 0⟩] scope pos) (some (.Name x pos')) spos.line X.env = pure true)
    (hs : ∀ x, foldedSetIterable iter X.env x = pure x) :
    PS X (.Assign [.Name x pos'] (.ListComp elt [⟨tg, iter, ifs, 0⟩] scope pos) spos) (sM X.K (sAsg (mComp ix mi g tc me) (gNm k))) :=
  (ps_setC hN hk hx S hcalm hi hg ht he hsw hs).imp fun D σ H ⟨α, ρ, h, d, h', hσ, hr, e, kk⟩ => by
    obtain ⟨x, h1, e1, e⟩ := bnd_inv e
    cases e
    exact comp_reads cg ⟨α, ρ, h, x, _, hσ, hr, e1, fun α1 H1 v ev1 hr1 rv => kk α1 H1 ev1 hr1 _ ((hσ.ev ev1).set rv)⟩
theorem PI.imp {tg iter : Expr} {t t' : TI} (h : PI X tg iter t) (i : ∀ σ H R, t' σ H R → t σ H R) : PI X tg iter t' := fun pins s σ H R I q => h pins s σ H R I (i σ H R q)
def iL (a : FE) : FI := fun ρ h => bnd (a ρ h) fun x h1 => match x with
  | .lst xs => some ((xs, none), h1)
  | .scr ns => some ((ns.map M.int, none), h1)
  | .ref k => (match h1[k]? with | some (.lst xs) => some ((xs, some k), h1) | _ => none)
  | _ => none
def iS (a : FE) : FI := fun ρ h => bnd (a ρ h) fun x h1 => match x with | .str z => some ((z.cps.toList.map fun c => M.str ⟨#[c]⟩, none), h1) | _ => none
def iR1 (a : FA) : FI := fun ρ h => bnd (a ρ h) fun xs h1 => match xs with | [.int j] => if -4611686018427387904 ≤ j ∧ j < 4611686018427387904 then some (((List.range j.toNat).map fun (i : Nat) => M.int (i : Int), none), h1) else none | _ => none
theorem RepAs.ints {K : PySem.W.Frag} {α : Pl} {H : Hp} : ∀ {ns : List Int}, RepAs K α H (ns.map M.int) (ns.map V.int)
  | [] => rfl
  | n :: ns => ⟨_, _, rfl, rfl, RepAs.ints⟩
theorem RepA.hides {K : PySem.W.Frag} {α : Pl} {H : Hp} {m : M} {v : V} (r : RepA K α H m v) : ∀ {γ : List Addr}, (∀ b ∈ γ, H b = none) → RepA K ⟨α.a, γ ++ α.g⟩ H m v
  | [], _ => r
  | p :: γ, h => RepA.hide (α := ⟨α.a, γ ++ α.g⟩) (h p List.mem_cons_self) (RepA.hides r fun b hb => h b (List.mem_cons_of_mem _ hb))
theorem wk_list {K : PySem.W.Frag} {α : Pl} {H : Hp} {a : Addr} {xs : List M} {k : Option Nat} (hs : ∀ γ, (∀ b ∈ γ, H b = none) → ∀ α1 h1 H1, Ev ⟨α.a, γ ++ α.g⟩ α1 H H1 → Rl K α1 h1 H1 → okS xs k h1 → ∃ vs, SqL K H1 a vs ∧ RepAs K α1 H1 xs vs) : Wk K α H xs k (Itl K a) := by
  intro γ hγ α1 h1 H1 ev hr ok i
  obtain ⟨vs, sq, rs⟩ := hs γ hγ α1 h1 H1 ev hr ok
  refine ⟨fun x hx => ?_, fun hl => ⟨vs, sq, by rw [← rs.length]; omega⟩⟩
  obtain ⟨v, hv, rv⟩ := rs.get hx
  refine ⟨⟨vs, v, sq, hv⟩, fun w H2 y => ?_⟩
  obtain ⟨e1, e2⟩ := y
  subst e1
  have := e2 vs sq
  rw [hv] at this
  cases this
  exact ⟨Same.refl _, rv⟩
theorem mi_list {l tg : Expr} {ml : FE} (hl : PE X l (tM X.K ml)) : PI X tg l (iM X.K (iL ml)) := (pi_list hl).imp fun σ H R ⟨α, ρ, h, s, h', hσ, hr, e, k⟩ => by
  obtain ⟨x, h1, e1, e⟩ := bnd_inv e
  split at e
  · cases e
    refine ⟨α, ρ, h, _, _, hσ, hr, e1, fun α1 H1 v ev1 hr1 rv => ?_⟩
    obtain ⟨a, vs, rfl, n, ha, rs⟩ := id rv
    refine ⟨a, rfl, ⟨vs, .of ha⟩, k α1 H1 _ ev1 hr1 (wk_list fun γ hγ α2 h2 H2 ev2 hr2 _ => ?_)⟩
    obtain ⟨a', vs', ea, n', ha', rs'⟩ := (rv.hides hγ).ev ev2
    cases ea
    exact ⟨vs', .of ha', rs'⟩
  · cases e
    refine ⟨α, ρ, h, _, _, hσ, hr, e1, fun α1 H1 v ev1 hr1 rv => ?_⟩
    obtain ⟨a, rfl, ha⟩ := id rv
    refine ⟨a, rfl, ⟨_, ha.sq⟩, k α1 H1 _ ev1 hr1 (wk_list fun γ hγ α2 h2 H2 ev2 hr2 _ => ?_)⟩
    obtain ⟨a', ea, ha'⟩ := (rv.hides hγ).ev ev2
    cases ea
    exact ⟨_, ha'.sq, RepAs.ints⟩
  · split at e
    · rename_i k0 xs hk
      cases e
      refine ⟨α, ρ, h, _, _, hσ, hr, e1, fun α1 H1 v ev1 hr1 rv => ?_⟩
      obtain ⟨a, ha, rfl⟩ := id rv
      obtain ⟨vs, hv, rs⟩ := hr1.obj _ a _ ha hk
      refine ⟨a, rfl, ⟨_, .of hv⟩, k α1 H1 _ ev1 hr1 (wk_list fun γ hγ α2 h2 H2 ev2 hr2 ok => ?_)⟩
      obtain ⟨vs', hv', rs'⟩ := hr2.obj _ a _ (ev2.ix ha) ok
      exact ⟨_, .of hv', rs'⟩
    · cases e
  · cases e
theorem mi_str {l tg : Expr} {ml : FE} (hl : PE X l (tM X.K ml)) : PI X tg l (iM X.K (iS ml)) := (pi_str hl).imp fun σ H R ⟨α, ρ, h, s, h', hσ, hr, e, k⟩ => by
  obtain ⟨x, h1, e1, e⟩ := bnd_inv e
  split at e
  · rename_i z
    cases e
    refine ⟨α, ρ, h, _, _, hσ, hr, e1, fun α1 H1 v ev1 hr1 rv => ⟨z, rv, k α1 H1 _ ev1 hr1 fun γ hγ α2 h2 H2 ev2 hr2 _ i => ⟨fun x hx => ?_, fun hl => show z.cps.size ≤ i by simp at hl; omega⟩⟩⟩
    rw [List.getElem?_map] at hx
    cases q : z.cps.toList[i]? with
    | none => rw [q] at hx; cases hx
    | some c =>
      rw [q] at hx
      cases hx
      have hi : i < z.cps.size := by simpa using (List.getElem?_eq_some_iff.mp q).1
      refine ⟨hi, fun w H3 y => ?_⟩
      obtain ⟨e1, c', ec, ew⟩ := y
      subst e1 ew
      have : z.cps[i]? = some c := by simpa using q
      rw [this] at ec
      cases ec
      exact ⟨Same.refl _, rfl⟩
  · cases e
theorem wk_range {K : PySem.W.Frag} {α : Pl} {H : Hp} {lo : Int} {n : Nat} : Wk K α H ((List.range n).map fun (q : Nat) => M.int (lo + q)) none (Itr lo n) := by
  intro γ hγ α2 h2 H2 ev2 hr2 _ i
  refine ⟨fun x hx => ?_, fun hl => show n ≤ i by simp at hl; omega⟩
  have hi : i < n := by simpa using (List.getElem?_eq_some_iff.mp hx).1
  rw [List.getElem?_map, List.getElem?_range hi] at hx
  cases hx
  refine ⟨hi, fun w H3 y => ?_⟩
  obtain ⟨e1, ew⟩ := y
  subst e1 ew
  exact ⟨Same.refl _, rfl⟩
theorem mi_range1 {a tg : Expr} (hg : Gl X "range") (hm : X.mg "range" = none) (ha : PA X [a] (aM X.K mas)) (hs : starEach [a] X.env = [(false, eval a X.env)]) : PI X tg (.Call (.Name "range" p) [a] [] pos) (iM X.K (iR1 mas)) := (pi_range1 hg hm ha hs).imp fun σ H R ⟨α, ρ, h, s, h', hσ, hr, e, k⟩ => by
  obtain ⟨xs, h1, e1, e⟩ := bnd_inv e
  split at e
  · rename_i j
    split at e
    · rename_i hj
      cases e
      refine ⟨α, ρ, h, _, _, hσ, hr, e1, fun α1 H1 vs ev1 hr1 rv => ?_⟩
      obtain ⟨v, r, rfl, rv, rr⟩ := rv
      cases (show r = [] from rr)
      cases (show v = .int j from rv)
      refine ⟨j, rfl, by omega, by omega, k α1 H1 _ ev1 hr1 ?_⟩
      have := wk_range (K := X.K) (α := α1) (H := H1) (lo := 0) (n := j.toNat)
      simp only [Int.zero_add] at this
      exact this
    · cases e
  · cases e
def mFun (n k : Nat) (b : FS) : FF := fun ds h => if ds.length = n then bnd (b (ds.map some ++ List.replicate k none) h) fun o h1 => match o with
  | .rt d => some (d, h1)
  | .nx _ => some (.non, h1)
  | _ => none else none
theorem REnv.start {K : PySem.W.Frag} {α : Pl} {H : Hp} : ∀ {ds : List M} {vs : List V} {k : Nat}, RepAs K α H ds vs → REnv K α H (ds.map some ++ List.replicate k none) (vs.map some ++ List.replicate k none)
  | [], vs, k, h => by
    cases (show vs = [] from h)
    refine ⟨by simp, fun i m hi => ?_⟩
    simp [List.getElem?_replicate] at hi
  | d :: ds, vs, k, ⟨v, r, e, h1, h2⟩ => by
    subst e
    obtain ⟨q1, q2⟩ := REnv.start (k := k) h2
    refine ⟨by simpa using q1, fun i m hi => ?_⟩
    cases i with
    | zero => simp at hi; subst hi; exact ⟨v, by simp, h1⟩
    | succ i => simpa using q2 i m (by simpa using hi)
end
section
variable {P : Program} {w : World} {K : PySem.W.Frag} {mg : Str → Option Value} {base : Heap}
theorem Fun.okM {x qual : Str} {st : Stmt} {f : Addr} {fd : FuncData} {N ps : List Str} {k n : Nat} {b : FS} (F : Fun K x qual st f fd) (S : FnScope N ps (defScope st)) (hn : N.length = ps.length + n)
    (hb : ∀ (cdv : Value) (A : Around) (outer : List Env) (s : Shared) (H : Hp) (E : XK), Room k (A.deeper (envOfC qual (defScope st) s.heap.objs.size f cdv)) →
      PSs (cxOf CX0 P w K mg base N qual (defScope st) f cdv A outer s H E).nox (defBody st) (sM (cxOf CX0 P w K mg base N qual (defScope st) f cdv A outer s H E).nox.K b)) : FnOk P w K mg base CX0 (k + 1) f fd ps (spM K (mFun ps.length n b)) := by
  refine F.ok S (fun vs H Q E q => ?_) (fun cdv A outer s H vs Q E hr q => ⟨sM K b, hb cdv A outer s H E hr, ?_⟩)
  · obtain ⟨α, h, ds, d, h', rs, hr, e, _⟩ := q
    unfold mFun at e
    split at e
    · rename_i hl
      rw [← rs.length]; exact hl
    · cases e
  · obtain ⟨α, h, ds, d, h', rs, hr, e, k⟩ := q
    unfold mFun at e
    split at e
    · rename_i hl
      obtain ⟨o, h1, e1, e⟩ := bnd_inv e
      have ek : N.length - vs.length = n := by rw [← rs.length, hl, hn]; omega
      refine ⟨α, ds.map some ++ List.replicate n none, h, o, h1, ?_, hr, e1, fun α' H' ev hr' => ?_⟩
      · unfold start
        rw [ek]
        exact REnv.start rs
      · cases o with
        | nx ρ => cases e; exact fun σ _ => k α' H' .non ev hr' rfl
        | rt d => cases e; exact fun v rv => k α' H' v ev hr' rv
        | bk ρ => cases e
        | ct ρ => cases e
    · cases e
end
end L2
namespace L2
open PySem PySem.Spec PyProof.Rows
def seqL (h : HpM) : M → Option (List M)
  | .lst xs => some xs
  | .ref k => (match h[k]? with | some (.lst xs) => some xs | _ => none)
  | _ => none
theorem seqL_rep {K : PySem.W.Frag} {α : Pl} {h : HpM} {H : Hp} {m : M} {v : V} {xs : List M} (hr : Rl K α h H) (rm : RepA K α H m v) (e : seqL h m = some xs) : ∃ a vs, v = .ref a ∧ H a = some (.lst vs) ∧ RepAs K α H xs vs := by
  unfold seqL at e
  split at e
  · cases e
    obtain ⟨a, vs, e1, n, ha, rs⟩ := rm
    exact ⟨a, vs, e1, ha, rs⟩
  · split at e
    · rename_i hk
      cases e
      obtain ⟨a, ha, e1⟩ := rm
      obtain ⟨vs, hv, rs⟩ := hr.obj _ a _ ha hk
      exact ⟨a, vs, e1, hv, rs⟩
    · cases e
  · cases e
def seqR (h : HpM) : M → Option (List M)
  | .scr ns => some (ns.map M.int)
  | m => seqL h m
theorem seqR_rep {K : PySem.W.Frag} {α : Pl} {h : HpM} {H : Hp} {m : M} {v : V} {xs : List M} (hr : Rl K α h H) (rm : RepA K α H m v) (e : seqR h m = some xs) : ∃ a vs, v = .ref a ∧ SqL K H a vs ∧ RepAs K α H xs vs := by
  unfold seqR at e
  split at e
  · cases e
    obtain ⟨a, e1, t⟩ := rm
    exact ⟨a, _, e1, t.sq, RepAs.ints⟩
  · obtain ⟨a, vs, e1, ha, rs⟩ := seqL_rep hr rm e
    exact ⟨a, vs, e1, .of ha, rs⟩
def cutM (xs : List M) (lo hi : Option Int) : List M := (xs.drop (HT.sIx xs.length 0 lo)).take (HT.sIx xs.length xs.length hi - HT.sIx xs.length 0 lo)
theorem RepAs.cut {K : PySem.W.Frag} {α : Pl} {H : Hp} {xs : List M} {vs : List V} {lo hi : Option Int} (r : RepAs K α H xs vs) : RepAs K α H (cutM xs lo hi) (cutV vs lo hi) := by
  unfold cutM cutV
  rw [← r.length]
  exact (r.drop _).take _
theorem laidL {K : PySem.W.Frag} {α : Pl} {h : HpM} {H : Hp} {p : Addr} {xs : List M} {vs : List V} (hr : Rl K α h H) (hp : H p = none) (rs : RepAs K α H xs vs) : RepA K α (upd H p (.lst vs)) (.lst xs) (.ref p) :=
  ⟨p, vs, rfl, hr.new hp, upd_same, rs.ev (.same (same_new hp _))⟩
theorem laidT {K : PySem.W.Frag} {α : Pl} {h : HpM} {H : Hp} {p : Addr} {xs : List M} {vs : List V} (hr : Rl K α h H) (hp : H p = none) (rs : RepAs K α H xs vs) : RepA K α (upd H p (.tup vs)) (.tup xs) (.ref p) :=
  ⟨p, vs, rfl, .inl ⟨.inl upd_same, hr.new hp⟩, rs.ev (.same (same_new hp _))⟩
section
variable {X : Cx} {K : PySem.W.Frag}
def rCatK (K : PySem.W.Frag) : R2 := fun x y H Q => ∃ (a b : Addr) (xs ys : List V), x = .ref a ∧ y = .ref b ∧ SqT K H a xs ∧ SqT K H b ys ∧ xs.length + ys.length ≤ sizeLine ∧
  (xs = [] → Q (.ref b) H) ∧ (xs ≠ [] → ys = [] → Q (.ref a) H) ∧ (xs ≠ [] → ys ≠ [] → ∀ p, H p = none → Q (.ref p) (upd H p (.tup (xs ++ ys))))
theorem op_catK : OpR X (binaryOp .Add) (rCatK X.K) := by
  intro pins s σ H x y v u Q I rx ry h
  obtain ⟨a, b, xs, ys, rfl, rfl, ha, hb, hz, q0, q1, q2⟩ := h
  by_cases hx : xs = []
  · subst hx
    cases rx
    cases ry
    obtain ⟨its, r1, p1, _⟩ := I.tuple ha
    obtain ⟨its2, r2, p2, _⟩ := I.tuple hb
    cases r1
    obtain ⟨⟨cls, dd, data, sl⟩, ho, hc, n, hd⟩ := id p1
    obtain ⟨⟨cls2, dd2, data2, sl2⟩, ho2, hc2, n2, hd2⟩ := id p2
    simp only at hc hd hc2 hd2
    subst hc hd hc2 hd2
    refine concat_meets ⟨_, ho, rfl⟩ ⟨_, ho2, rfl⟩ noFill_tuple_add seq_tuple_add PySem.F.slot_tuple_add PySem.F.entry_tuple_add (PySem.F.args_tuple_add_2 _ _)
      (tuple_addW0 a b _ _ n n2 dd dd2 sl sl2 (by simp)) ⟨ho, ho2, ?_⟩
    exact ⟨.ref b, H, I, rfl, q0 rfl⟩
  · exact op_catT pins s σ H _ _ v u Q I rx ry ⟨a, b, xs, ys, rfl, rfl, ha, hb, hx, hz, fun e => q1 hx e, fun e => q2 hx e⟩
def opAdd (x y : M) (h : HpM) : Option M := match x, y with
  | .int i, .int j => some (.int (i + j))
  | .str a, .str b => if a.length + b.length ≤ 16777216 then some (.str (a ++ b)) else none
  | .tup xs, .tup ys => if xs.length + ys.length ≤ 16777216 then some (.tup (xs ++ ys)) else none
  | x, y => (seqL h x).bind fun xs => (seqL h y).bind fun ys => if xs.length + ys.length ≤ 16777216 then some (.lst (xs ++ ys)) else none
def rAddM (K : PySem.W.Frag) : R2 := fun x y H Q => rI0 (fun i j => .int (i + j)) x y H Q ∨ (∃ i j, x = .str i ∧ y = .str j ∧ i.length + j.length ≤ sizeLine ∧ Q (.str (i ++ j)) H) ∨ rCat x y H Q ∨ rCatK K x y H Q
theorem op_addM : OpR X (binaryOp .Add) (rAddM X.K) := by
  intro pins s σ H x y v u Q I rx ry h
  rcases h with h | h | h | h
  · exact op_add pins s σ H x y v u Q I rx ry h
  · exact op_add_str pins s σ H x y v u Q I rx ry h
  · exact op_cat pins s σ H x y v u Q I rx ry h
  · exact op_catK pins s σ H x y v u Q I rx ry h
theorem fm_add : OpM K (rAddM K) opAdd := by
  intro α h H x y d u v Q hr rx ry e k
  unfold opAdd at e
  split at e
  · cases e
    exact .inl ⟨_, _, rx, ry, k H _ (Same.refl _) rfl⟩
  · split at e
    · rename_i hl
      cases e
      exact .inr (.inl ⟨_, _, rx, ry, by rw [sizeLine_eq]; exact hl, k H _ (Same.refl _) rfl⟩)
    · cases e
  · split at e
    · rename_i xs ys hl
      cases e
      obtain ⟨a, vs, rfl, ta, rs⟩ := id rx
      obtain ⟨b, ws, rfl, tb, rt⟩ := id ry
      refine .inr (.inr (.inr ⟨a, b, vs, ws, rfl, rfl, ta.sq, tb.sq, by rw [← rs.length, ← rt.length, sizeLine_eq]; exact hl, fun e => ?_, fun _ e => ?_, fun _ _ p hp => ?_⟩))
      · have : xs = [] := by have := rs.length; rw [e] at this; simpa using this
        subst this
        exact k H _ (Same.refl _) ry
      · have : ys = [] := by have := rt.length; rw [e] at this; simpa using this
        subst this
        rw [List.append_nil] at k
        exact k H _ (Same.refl _) rx
      · exact k _ _ (same_new hp _) (laidT hr hp (rs.app rt))
    · cases e
  · obtain ⟨xs, e1, e⟩ := Option.bind_eq_some_iff.mp e
    obtain ⟨ys, e2, e⟩ := Option.bind_eq_some_iff.mp e
    split at e
    · rename_i hl
      cases e
      obtain ⟨a, vs, rfl, ta, rs⟩ := seqL_rep hr rx e1
      obtain ⟨b, ws, rfl, tb, rt⟩ := seqL_rep hr ry e2
      exact .inr (.inr (.inl ⟨a, b, vs, ws, rfl, rfl, ta, tb, by rw [← rs.length, ← rt.length, sizeLine_eq]; exact hl, fun p hp => k _ _ (same_new hp _) (laidL hr hp (rs.app rt))⟩))
    · cases e
def onI (f : Int → Int → Option M) (x y : M) (_ : HpM) : Option M := match x, y with | .int i, .int j => f i j | _, _ => none
def opSub : M → M → HpM → Option M := onI fun i j => some (.int (i - j))
def opMod : M → M → HpM → Option M := onI fun i j => if 0 < j then some (.int (i % j)) else none
def opDiv : M → M → HpM → Option M := onI fun i j => if 0 < j ∧ j < 1073741824 then some (.int (i / j)) else none
def opPow : M → M → HpM → Option M := onI fun i j => if 0 ≤ j ∧ j ≤ 1000000 ∧ i.natAbs < 18446744073709551616 then some (.int (i ^ j.toNat)) else none
theorem onI_inv {f : Int → Int → Option M} {x y d : M} {h : HpM} (e : onI f x y h = some d) : ∃ i j, x = .int i ∧ y = .int j ∧ f i j = some d := by
  unfold onI at e
  split at e
  · exact ⟨_, _, rfl, rfl, e⟩
  · cases e
theorem fm_sub : OpM K (rI0 fun i j => .int (i - j)) opSub := by
  intro α h H x y d u v Q hr rx ry e k
  obtain ⟨i, j, rfl, rfl, e'⟩ := onI_inv e
  clear e
  have e := e'
  clear e'
  cases e
  exact ⟨i, j, rx, ry, k H _ (Same.refl _) rfl⟩
theorem fm_mod : OpM K (rI (fun _ j => 0 < j) fun i j => .int (i % j)) opMod := by
  intro α h H x y d u v Q hr rx ry e k
  obtain ⟨i, j, rfl, rfl, e'⟩ := onI_inv e
  clear e
  have e := e'
  clear e'
  split at e
  · rename_i hj
    cases e
    exact ⟨i, j, rx, ry, hj, k H _ (Same.refl _) rfl⟩
  · cases e
theorem fm_div : OpM K (rI CDiv fun i j => .int (i / j)) opDiv := by
  intro α h H x y d u v Q hr rx ry e k
  obtain ⟨i, j, rfl, rfl, e'⟩ := onI_inv e
  clear e
  have e := e'
  clear e'
  split at e
  · rename_i hj
    cases e
    exact ⟨i, j, rx, ry, hj, k H _ (Same.refl _) rfl⟩
  · cases e
theorem fm_pow : OpM K (rI CPow fun i j => .int (i ^ j.toNat)) opPow := by
  intro α h H x y d u v Q hr rx ry e k
  obtain ⟨i, j, rfl, rfl, e'⟩ := onI_inv e
  clear e
  have e := e'
  clear e'
  split at e
  · rename_i hj
    cases e
    exact ⟨i, j, rx, ry, ⟨hj.1, hj.2.1, by have := hj.2.2; omega⟩, k H _ (Same.refl _) rfl⟩
  · cases e
def reps (n : Nat) (xs : List M) : List M := (List.replicate n xs).flatten
def opMul (x y : M) (h : HpM) : Option M := match x, y with
  | .int i, .int j => if (-18446744073709551616 < i ∧ i < 18446744073709551616) ∨ (-18446744073709551616 < j ∧ j < 18446744073709551616) then some (.int (i * j)) else none
  | .str z, .int j => if z.length ≤ 16 ∧ 0 ≤ j ∧ j ≤ 1000 then some (.str (Txt.mul z j)) else none
  | x, .int j => (seqL h x).bind fun xs => if -9223372036854775808 ≤ j ∧ j < 9223372036854775808 ∧ xs.length * j.toNat ≤ 16777216 then some (.lst (reps j.toNat xs)) else none
  | _, _ => none
def rMulM : R2 := fun x y H Q => rI CMul (fun i j => .int (i * j)) x y H Q ∨ (∃ i j, x = .str i ∧ y = .int j ∧ (i.length ≤ 16 ∧ 0 ≤ j ∧ j ≤ 1000) ∧ Q (.str (Txt.mul i j)) H) ∨ rRep x y H Q
theorem op_mulM : OpR X (binaryOp .Mult) rMulM := by
  intro pins s σ H x y v u Q I rx ry h
  rcases h with h | h | h
  · exact op_mul pins s σ H x y v u Q I rx ry h
  · exact op_mul_str pins s σ H x y v u Q I rx ry h
  · exact op_rep pins s σ H x y v u Q I rx ry h
theorem RepAs.reps {α : Pl} {H : Hp} {xs : List M} {vs : List V} (r : RepAs K α H xs vs) : ∀ n : Nat, RepAs K α H (L2.reps n xs) (List.replicate n vs).flatten
  | 0 => rfl
  | n + 1 => by
    unfold L2.reps
    rw [List.replicate_succ, List.replicate_succ, List.flatten_cons, List.flatten_cons]
    exact r.app (RepAs.reps r n)
theorem fm_mul : OpM K rMulM opMul := by
  intro α h H x y d u v Q hr rx ry e k
  unfold opMul at e
  split at e
  · split at e
    · rename_i hl
      cases e
      refine .inl ⟨_, _, rx, ry, ?_, k H _ (Same.refl _) rfl⟩
      unfold CMul
      omega
    · cases e
  · split at e
    · rename_i hl
      cases e
      exact .inr (.inl ⟨_, _, rx, ry, hl, k H _ (Same.refl _) rfl⟩)
    · cases e
  · obtain ⟨xs, e1, e⟩ := Option.bind_eq_some_iff.mp e
    split at e
    · rename_i hl
      cases e
      obtain ⟨a, vs, rfl, ta, rs⟩ := seqL_rep hr rx e1
      exact .inr (.inr ⟨a, _, vs, rfl, ry, ta, by omega, by omega, by rw [← rs.length, sizeLine_eq]; omega, fun p hp => k _ _ (same_new hp _) (laidL hr hp (rs.reps _))⟩)
    · cases e
  · cases e
def onO (f : Int → Int → Bool) (g : List Nat → List Nat → Bool) (x y : M) (_ : HpM) : Option M := match x, y with
  | .int i, .int j => some (.bl (f i j))
  | .str a, .str b => some (.bl (g a.cps.toList b.cps.toList))
  | _, _ => none
def opLt := onO (fun i j => decide (i < j)) fun a b => decide (a < b)
def opLe := onO (fun i j => decide (i ≤ j)) fun a b => !decide (b < a)
def opGt := onO (fun i j => decide (j < i)) fun a b => decide (b < a)
def opGe := onO (fun i j => decide (j ≤ i)) fun a b => !decide (a < b)
theorem onO_inv {f : Int → Int → Bool} {g : List Nat → List Nat → Bool} {x y d : M} {h : HpM} (e : onO f g x y h = some d) : (∃ i j, x = .int i ∧ y = .int j ∧ d = .bl (f i j)) ∨ ∃ a b, x = .str a ∧ y = .str b ∧ d = .bl (g a.cps.toList b.cps.toList) := by
  unfold onO at e
  split at e
  · cases e; exact .inl ⟨_, _, rfl, rfl, rfl⟩
  · cases e; exact .inr ⟨_, _, rfl, rfl, rfl⟩
  · cases e
theorem fm_lt : OpM K rLtA opLt := by
  intro α h H x y d u v Q hr rx ry e k
  rcases onO_inv e with ⟨i, j, rfl, rfl, rfl⟩ | ⟨i, j, rfl, rfl, rfl⟩
  · exact .inl ⟨i, j, rx, ry, k H _ (Same.refl _) rfl⟩
  · exact .inr ⟨i, j, rx, ry, k H _ (Same.refl _) rfl⟩
theorem fm_le : OpM K rLeA opLe := by
  intro α h H x y d u v Q hr rx ry e k
  rcases onO_inv e with ⟨i, j, rfl, rfl, rfl⟩ | ⟨i, j, rfl, rfl, rfl⟩
  · exact .inl ⟨i, j, rx, ry, k H _ (Same.refl _) rfl⟩
  · exact .inr ⟨i, j, rx, ry, k H _ (Same.refl _) rfl⟩
theorem fm_gt : OpM K rGtA opGt := by
  intro α h H x y d u v Q hr rx ry e k
  rcases onO_inv e with ⟨i, j, rfl, rfl, rfl⟩ | ⟨i, j, rfl, rfl, rfl⟩
  · exact .inl ⟨i, j, rx, ry, k H _ (Same.refl _) rfl⟩
  · exact .inr ⟨i, j, rx, ry, k H _ (Same.refl _) rfl⟩
theorem fm_ge : OpM K rGeA opGe := by
  intro α h H x y d u v Q hr rx ry e k
  rcases onO_inv e with ⟨i, j, rfl, rfl, rfl⟩ | ⟨i, j, rfl, rfl, rfl⟩
  · exact .inl ⟨i, j, rx, ry, k H _ (Same.refl _) rfl⟩
  · exact .inr ⟨i, j, rx, ry, k H _ (Same.refl _) rfl⟩
def isN : M → Bool
  | .non => true
  | _ => false
theorem isN_rep {α : Pl} {H : Hp} {m : M} {v : V} (r : RepA K α H m v) : decide (v = .non) = isN m := by
  cases m with
  | non => cases (show v = .non from r); rfl
  | bl b => cases (show v = .bl b from r); rfl
  | int b => cases (show v = .int b from r); rfl
  | str b => cases (show v = .str b from r); rfl
  | ty b => cases (show v = .ty b from r); rfl
  | tup xs => obtain ⟨a, vs, e, _⟩ := r; subst e; rfl
  | lst xs => obtain ⟨a, vs, e, _⟩ := r; subst e; rfl
  | dct xs => obtain ⟨a, vs, e, _⟩ := r; subst e; rfl
  | ref k => obtain ⟨a, _, e⟩ := r; subst e; rfl
  | scr ns => obtain ⟨a, e, _⟩ := r; subst e; rfl
def opIs (x y : M) (_ : HpM) : Option M := match y with
  | .non => some (.bl (isN x))
  | .bl j => (match x with | .bl i => some (.bl (i == j)) | _ => none)
  | _ => none
theorem fm_is : OpM K rIsA opIs := by
  intro α h H x y d u v Q hr rx ry e k
  unfold opIs at e
  split at e
  · cases e
    exact .inl ⟨ry, by rw [isN_rep rx]; exact k H _ (Same.refl _) rfl⟩
  · split at e
    · cases e
      exact .inr ⟨_, _, rx, ry, k H _ (Same.refl _) rfl⟩
    · cases e
  · cases e
def keyM : M → Option Key
  | .int i => some (.inl i)
  | .str z => some (.inr z)
  | _ => none
theorem keyM_rep {K : PySem.W.Frag} {α : Pl} {H : Hp} {m : M} {v : V} {k : Key} (e : keyM m = some k) (r : RepA K α H m v) : v = kV k := by
  cases m <;> cases e <;> exact r
def dctOf (h : HpM) : M → Option (List (Key × M))
  | .dct ks xs => if ks.length = xs.length then some (ks.zip xs) else none
  | .ref k => (match h[k]? with | some (.dct kvs) => some kvs | _ => none)
  | _ => none
theorem dctOf_rep {K : PySem.W.Frag} {α : Pl} {h : HpM} {H : Hp} {m : M} {v : V} {kvs : List (Key × M)} (hr : Rl K α h H) (rm : RepA K α H m v) (e : dctOf h m = some kvs) : ∃ a ws, v = .ref a ∧ Rd H a (.dK ws) ∧ ws.map (·.1) = kvs.map (·.1) ∧ RepAs K α H (kvs.map (·.2)) (ws.map (·.2)) := by
  unfold dctOf at e
  split at e
  · split at e
    · rename_i hl
      cases e
      obtain ⟨a, ws, e1, n, ha, ek, rs⟩ := rm
      exact ⟨a, ws, e1, ha, by rw [ek, List.map_fst_zip (by omega)], by rw [List.map_snd_zip (by omega)]; exact rs⟩
    · cases e
  · split at e
    · rename_i hk
      cases e
      obtain ⟨a, ha, e1⟩ := rm
      obtain ⟨ws, hv, ek, rs⟩ := hr.obj _ a _ ha hk
      exact ⟨a, ws, e1, .inl hv, ek, rs⟩
    · cases e
  · cases e
def valM (kvs : List (Key × M)) (k : Key) : Option M := (kvs.find? fun kv => decide (kv.1 = k)).map (·.2)
theorem valM_rep {K : PySem.W.Frag} {α : Pl} {H : Hp} (k : Key) : ∀ {kvs : List (Key × M)} {ws : List (Key × V)}, ws.map (·.1) = kvs.map (·.1) → RepAs K α H (kvs.map (·.2)) (ws.map (·.2)) →
    (valV ws k).isSome = (valM kvs k).isSome ∧ ∀ m, valM kvs k = some m → ∃ v, valV ws k = some v ∧ RepA K α H m v
  | [], [], _, _ => ⟨rfl, fun m h => by cases h⟩
  | [], _ :: _, e, _ => by cases e
  | _ :: _, [], e, _ => by cases e
  | kv :: kvs, w :: ws, e, r => by
    obtain ⟨v, q, e1, h1, h2⟩ := r
    have e1' : w.2 :: ws.map (·.2) = v :: q := e1
    injection e1' with ev eq
    subst ev eq
    have e' : w.1 :: ws.map (·.1) = kv.1 :: kvs.map (·.1) := e
    injection e' with ek es
    obtain ⟨i1, i2⟩ := valM_rep k es h2
    by_cases hk : kv.1 = k
    · have hw : w.1 = k := ek.trans hk
      have a1 : valM (kv :: kvs) k = some kv.2 := by simp [valM, List.find?_cons, hk]
      have a2 : valV (w :: ws) k = some w.2 := valV_pos hw
      rw [a1, a2]
      exact ⟨rfl, fun m h => by cases h; exact ⟨_, rfl, h1⟩⟩
    · have hw : ¬ w.1 = k := fun z => hk (ek.symm.trans z)
      have a1 : valM (kv :: kvs) k = valM kvs k := by simp [valM, List.find?_cons, hk]
      have a2 : valV (w :: ws) k = valV ws k := valV_neg hw
      rw [a1, a2]
      exact ⟨i1, i2⟩
def ixM (x y : M) (h : HpM) : Option M := match dctOf h x with
  | some kvs => (keyM y).bind (valM kvs)
  | none => (match y with
  | .int i => (match x with
    | .tup xs => atI xs i
    | .str z => if z.length ≤ 16777216 then (atI z.cps.toList i).map fun c => .str ⟨#[c]⟩ else none
    | x => (seqR h x).bind fun xs => atI xs i)
  | _ => none)
def rIxD : R2 := fun x y H Q => ∃ a v, x = .ref a ∧ DGet H a y (some v) ∧ Q v H
theorem ix_dict (hu : X.A.units + 1 < cLine) : IxR X rIxD := by
  intro value slice pins s σ H x y v u Q I rx ry q hs
  obtain ⟨a, z, rfl, g, q⟩ := q
  cases (show v = .ref a from rx)
  have hT := dict_typeIs I g
  unfold subscriptTail
  refine wpAny_bind ?_
  rw [getitemInPython_of_ne hT.not_modules]
  refine wpAny_bind (wpAny_specialOf hT PySem.F.slot_dict_getitem.lookup ?_)
  have fin : wpAny (model X.prog X.w) X.A (subscripted slice false (.ref a) u) (fun r s₃ => wpAny (model X.prog X.w) X.A (letTemporaryGo value (.ref a) r >>= fun _ => pure r) (EP X pins σ Q) X.xe s₃) X.xe s := by
    rw [hs]
    exact wpAny_operating (wpAny_mono (d_getItem hu I g ry fun w' s3 I3 rw' => (⟨z, H, I3, rw', q⟩ : EP X pins σ Q w' s3)) (fun r s₃ h₃ => wpAny_bind (wpAny_letTemporaryGo (wpAny_pure h₃))) fun _ _ x => x)
  first
    | exact wpAny_pure (wpAny_bind fin)
    | exact wpAny_bind (wpAny_pure (wpAny_bind fin))
    | exact wpAny_bind fin
def rIxQ (K : PySem.W.Frag) : R2 := fun x y H Q => rIxD x y H Q ∨ rIx K x y H Q
theorem ix_M (hu : X.A.units + 151 < cLine) : IxR X (rIxQ X.K) := (ix_dict (by omega)).or ix_seq
theorem fm_ix : OpM K (rIxQ K) ixM := by
  intro α h H x y d u v Q hr rx ry e k
  unfold ixM at e
  split at e
  · rename_i kvs hk
    obtain ⟨key, e1, e2⟩ := Option.bind_eq_some_iff.mp e
    obtain ⟨a, ws, rfl, ha, ek, rs⟩ := dctOf_rep hr rx hk
    obtain ⟨w, hw, rw'⟩ := (valM_rep key ek rs).2 d e2
    cases (keyM_rep e1 ry)
    exact .inl ⟨a, w, rfl, by rw [← hw]; exact .inl ⟨_, _, ha, rfl, rfl⟩, k H _ (Same.refl _) rw'⟩
  refine .inr ?_
  split at e
  · rename_i i
    split at e
    · obtain ⟨a, vs, rfl, t, rs⟩ := rx
      obtain ⟨w, hw, rw'⟩ := rs.at e
      exact .inr (.inl ⟨a, vs, i, w, rfl, ry, t.sq, hw, k H _ (Same.refl _) rw'⟩)
    · split at e
      · rename_i hl
        obtain ⟨c, e1, e2⟩ := Option.map_eq_some_iff.mp e
        subst e2
        exact .inr (.inr ⟨_, i, c, rx, ry, by rw [sizeLine_eq]; exact hl, e1, k H _ (Same.refl _) rfl⟩)
      · cases e
    · obtain ⟨xs, e1, e⟩ := Option.bind_eq_some_iff.mp e
      obtain ⟨a, vs, rfl, t, rs⟩ := seqR_rep hr rx e1
      obtain ⟨w, hw, rw'⟩ := rs.at e
      exact .inl ⟨a, vs, i, w, rfl, ry, t, hw, k H _ (Same.refl _) rw'⟩
  · cases e
def rSlK (K : PySem.W.Frag) : V → Option Int → Option Int → Hp → VK → Prop := fun x lo hi H Q => ∃ a xs, x = .ref a ∧ SqT K H a xs ∧ (cutV xs lo hi = xs → Q (.ref a) H) ∧ ∀ p, H p = none → Q (.ref p) (upd H p (.tup (cutV xs lo hi)))
theorem sl_tupK : SlR X (rSlK X.K) := by
  intro pins s σ H x v vl vu lo hi sl Q I rx hs pl pu h
  obtain ⟨a, xs, rfl, hx, q1, q2⟩ := h
  by_cases hw : HT.sIx xs.length 0 lo = 0 ∧ HT.sIx xs.length xs.length hi = xs.length
  · cases rx
    obtain ⟨its, r, ht, _⟩ := I.tuple hx
    have hlen : its.toArray.size = xs.length := by rw [List.size_toArray]; exact r.length.symm
    refine ⟨"tuple", _, PyProof.Rows.slot_tuple_getitem.lookup, ht.typeIs, ?_⟩
    refine whole_tuple ht hs pl pu (by rw [hlen]; exact hw) ⟨.ref a, H, I, rfl, q1 ?_⟩
    unfold cutV; rw [hw.1, hw.2]; simp
  · exact sl_tup pins s σ H _ v vl vu lo hi sl Q I rx hs pl pu ⟨a, xs, rfl, hx, hw, q2⟩
def slM (x : M) (lo hi : Option Int) (h : HpM) : Option M := match x with
  | .tup xs => some (.tup (cutM xs lo hi))
  | .str z => if z.length ≤ 16777216 then some (.str (Txt.slice z lo hi)) else none
  | x => (seqR h x).map fun xs => .lst (cutM xs lo hi)
def rSlM (K : PySem.W.Frag) : V → Option Int → Option Int → Hp → VK → Prop := fun x lo hi H Q => rSlL K x lo hi H Q ∨ rSlK K x lo hi H Q ∨ rSlS x lo hi H Q
theorem sl_M : SlR X (rSlM X.K) := sl_list.or (sl_tupK.or sl_str)
theorem fm_sl : SlM K (rSlM K) slM := by
  intro α h H x d lo hi u Q hr rx e k
  unfold slM at e
  split at e
  · cases e
    obtain ⟨a, vs, rfl, t, rs⟩ := id rx
    refine .inr (.inl ⟨a, vs, rfl, t.sq, fun e => ?_, fun p hp => k _ _ (same_new hp _) (laidT hr hp rs.cut)⟩)
    have rc := rs.cut (lo := lo) (hi := hi)
    rw [e] at rc
    exact k H _ (Same.refl _) ⟨a, vs, rfl, t, rc⟩
  · split at e
    · rename_i hl
      cases e
      exact .inr (.inr ⟨_, rx, by rw [sizeLine_eq]; exact hl, k H _ (Same.refl _) rfl⟩)
    · cases e
  · obtain ⟨xs, e1, e2⟩ := Option.map_eq_some_iff.mp e
    subst e2
    obtain ⟨a, vs, rfl, t, rs⟩ := seqR_rep hr rx e1
    exact .inl ⟨a, vs, rfl, t, fun p hp => k _ _ (same_new hp _) (laidL hr hp rs.cut)⟩
end
end L2
namespace L2
open PySem PySem.Spec PyProof.Rows
mutual
def RepK (K : PySem.W.Frag) (H : Hp) : D → V → Prop
  | .non, v => v = .non
  | .bl b, v => v = .bl b
  | .int i, v => v = .int i
  | .str x, v => v = .str x
  | .tup ds, v => ∃ a xs, v = .ref a ∧ SqT K H a xs ∧ RepKs K H ds xs
  | .lst ds, v => ∃ a xs, v = .ref a ∧ SqL K H a xs ∧ RepKs K H ds xs
def RepKs (K : PySem.W.Frag) (H : Hp) : List D → List V → Prop
  | [], xs => xs = []
  | d :: ds, xs => ∃ x r, xs = x :: r ∧ RepK K H d x ∧ RepKs K H ds r
end
section
open PySem.SeqAt
variable {X : Cx} {pins : List (Addr × Obj)} {σ : St} {H : Hp} {s : Shared}
theorem Inv.tupK (I : Inv X pins σ H s) {a : Addr} {xs : List V} (h : SqT X.K H a xs) : ∃ its : List Value, Vals xs its ∧ s.heap.IsTuple a its.toArray := by
  obtain ⟨its, r, t, _⟩ := I.tuple h
  exact ⟨its, r, t⟩
theorem Inv.lstK (I : Inv X pins σ H s) {a : Addr} {xs : List V} (h : SqL X.K H a xs) : ∃ its : List Value, Vals xs its ∧ s.heap.IsList a its.toArray := by
  obtain ⟨its, r, t, _⟩ := I.list h
  exact ⟨its, r, t.isList⟩
theorem Inv.apartK (I : Inv X pins σ H s) {a : Addr} {xs ys : List V} (h : SqT X.K H a xs) (h' : SqL X.K H a ys) : False := by
  obtain ⟨its, r, o, e, c, _⟩ := I.tupK h
  obtain ⟨its', r', o', e', c', _⟩ := I.lstK h'
  rw [e] at e'
  cases e'
  rw [c] at c'
  exact absurd c' (by decide)
mutual
theorem RepK.inj (I : Inv X pins σ H s) : ∀ {d d' : D} {v : V}, RepK X.K H d v → RepK X.K H d' v → d = d'
  | .non, d', v, h, h' => by
    cases (show v = .non from h)
    cases d' <;> simp_all [RepK]
  | .bl b, d', v, h, h' => by
    cases (show v = .bl b from h)
    cases d' <;> simp_all [RepK]
  | .int b, d', v, h, h' => by
    cases (show v = .int b from h)
    cases d' <;> simp_all [RepK]
  | .str b, d', v, h, h' => by
    cases (show v = .str b from h)
    cases d' <;> simp_all [RepK]
  | .tup ds, d', v, h, h' => by
    obtain ⟨a, xs, rfl, ha, hs⟩ := h
    cases d' with
    | tup ds' =>
      obtain ⟨a', xs', e, ha', hs'⟩ := h'
      cases e
      cases I.tuple_inj ha ha'
      rw [RepKs.inj I hs hs']
    | lst ds' =>
      obtain ⟨a', xs', e, ha', hs'⟩ := h'
      cases e
      exact (I.apartK ha ha').elim
    | _ => cases (show V.ref a = _ from h')
  | .lst ds, d', v, h, h' => by
    obtain ⟨a, xs, rfl, ha, hs⟩ := h
    cases d' with
    | lst ds' =>
      obtain ⟨a', xs', e, ha', hs'⟩ := h'
      cases e
      cases I.list_inj ha ha'
      rw [RepKs.inj I hs hs']
    | tup ds' =>
      obtain ⟨a', xs', e, ha', hs'⟩ := h'
      cases e
      exact (I.apartK ha' ha).elim
    | _ => cases (show V.ref a = _ from h')
theorem RepKs.inj (I : Inv X pins σ H s) : ∀ {ds ds' : List D} {xs : List V}, RepKs X.K H ds xs → RepKs X.K H ds' xs → ds = ds'
  | [], ds', xs, h, h' => by
    cases (show xs = [] from h)
    cases ds' with
    | nil => rfl
    | cons d r => obtain ⟨x, r', e, _⟩ := h'; cases e
  | d :: ds, ds', xs, h, h' => by
    obtain ⟨x, r, rfl, h1, h2⟩ := h
    cases ds' with
    | nil => cases (show x :: r = [] from h')
    | cons d2 r2 =>
      obtain ⟨x', r', e, h1', h2'⟩ := h'
      cases e
      rw [RepK.inj I h1 h1', RepKs.inj I h2 h2']
end
theorem RepKs.length {K : PySem.W.Frag} {H : Hp} : ∀ {ds : List D} {xs : List V}, RepKs K H ds xs → ds.length = xs.length
  | [], xs, h => by cases (show xs = [] from h); rfl
  | d :: ds, xs, h => by
    obtain ⟨x, r, rfl, _, h2⟩ := h
    simp [RepKs.length h2]
theorem RepKs.get' {K : PySem.W.Frag} {H : Hp} : ∀ {ds : List D} {xs : List V} {j : Nat} {d : D}, RepKs K H ds xs → ds[j]? = some d → ∃ x, xs[j]? = some x ∧ RepK K H d x
  | [], xs, j, x, h, e => by simp at e
  | d :: ds, xs, 0, x, h, e => by
    obtain ⟨y, r, rfl, h1, h2⟩ := h
    simp at e; subst e
    exact ⟨y, rfl, h1⟩
  | d :: ds, xs, j + 1, x, h, e => by
    obtain ⟨y, r, rfl, h1, h2⟩ := h
    obtain ⟨d', e', h'⟩ := RepKs.get' (j := j) h2 (by simpa using e)
    exact ⟨d', by simpa using e', h'⟩
theorem seq_itemsK {A : Around} {xs ys : List V} {its its2 : List Value} {ds ds' : List D} (rv : Vals xs its) (rv2 : Vals ys its2) (hx : RepKs X.K H ds xs) (hy : RepKs X.K H ds' ys)
    (ih : ∀ (j : Nat) d d' x y u v, ds[j]? = some d → ds'[j]? = some d' → RepK X.K H d x → RepK X.K H d' y → RelV x u → RelV y v → EqAt A s u v (deq d d')) :
    ∀ j (h1 : j < its.toArray.size) (h2 : j < its2.toArray.size), EqAt A s its.toArray[j] its2.toArray[j] (deq (ds.getD j .non) (ds'.getD j .non)) := by
  intro j h1 h2
  have l1 := rv.length
  have l2 := rv2.length
  have k1 := hx.length
  have k2 := hy.length
  have h1' : j < its.length := by simpa using h1
  have h2' : j < its2.length := by simpa using h2
  have j1 : j < ds.length := by omega
  have j2 : j < ds'.length := by omega
  obtain ⟨x, ex, rx⟩ := hx.get' (j := j) (d := ds[j]) (by simp [j1])
  obtain ⟨y, ey, ry⟩ := hy.get' (j := j) (d := ds'[j]) (by simp [j2])
  obtain ⟨u, eu, ru⟩ := rv.get ex
  obtain ⟨v, ev, rv'⟩ := rv2.get ey
  have e1 : its.toArray[j] = u := by
    have : its[j]? = some its[j] := by simp [h1']
    rw [this] at eu
    simpa using Option.some.inj eu
  have e2 : its2.toArray[j] = v := by
    have : its2[j]? = some its2[j] := by simp [h2']
    rw [this] at ev
    simpa using Option.some.inj ev
  have e3 : ds.getD j .non = ds[j] := by simp [List.getD_eq_getElem?_getD, j1]
  have e4 : ds'.getD j .non = ds'[j] := by simp [List.getD_eq_getElem?_getD, j2]
  rw [e1, e2, e3, e4]
  exact ih j _ _ x y u v (by simp [j1]) (by simp [j2]) rx ry ru rv'
theorem rc_and_eqK (I : Inv X pins σ H s) : ∀ (n : Nat) (A : Around) (d d' : D) (x y : V) (u v : Value), d.deep ≤ n → A.units + n < cLine → RepK X.K H d x → RepK X.K H d' y → RelV x u → RelV y v →
    RcAt A s u v (deq d d') ∧ EqAt A s u v (deq d d') := by
  intro n
  induction n with
  | zero =>
    intro A d d' x y u v hd hu hx hy ru rv
    have hu' : A.units < cLine := by omega
    cases d with
    | tup ds => simp [D.deep] at hd
    | lst ds => simp [D.deep] at hd
    | non =>
      cases (show x = .non from hx); cases ru
      cases d' with
      | non => cases (show y = .non from hy); cases rv; simp only [deq]; exact ⟨RcAt.none_none, EqAt.same _⟩
      | bl b => cases (show y = .bl b from hy); cases rv; simp only [deq]; exact ⟨RcAt.none_bool b, EqAt.none_bool b⟩
      | int i => cases (show y = .int i from hy); obtain ⟨t, rfl⟩ := rv; simp only [deq]; exact ⟨RcAt.none_int i t, EqAt.none_int i t⟩
      | str i => cases (show y = .str i from hy); obtain ⟨t, rfl⟩ := rv; simp only [deq]; exact ⟨RcAt.none_str i t, EqAt.none_str i t⟩
      | tup ds => obtain ⟨a, xs, rfl, ha, _⟩ := hy; cases rv; obtain ⟨its, r, ht⟩ := I.tupK ha; simp only [deq]; exact ⟨RcAt.none_tuple ht hu', EqAt.none_tuple ht hu'⟩
      | lst ds => obtain ⟨a, xs, rfl, ha, _⟩ := hy; cases rv; obtain ⟨its, r, ht⟩ := I.lstK ha; simp only [deq]; exact ⟨RcAt.none_list ht hu', EqAt.none_list ht hu'⟩
    | bl a =>
      cases (show x = .bl a from hx); cases ru
      cases d' with
      | non => cases (show y = .non from hy); cases rv; simp only [deq]; exact ⟨RcAt.bool_none a, EqAt.bool_none a⟩
      | bl b => cases (show y = .bl b from hy); cases rv; simp only [deq]; exact ⟨RcAt.bool_bool a b, EqAt.bool_bool a b⟩
      | int i => cases (show y = .int i from hy); obtain ⟨t, rfl⟩ := rv; simp only [deq]; exact ⟨RcAt.bool_int a i t, EqAt.bool_int a i t⟩
      | str i => cases (show y = .str i from hy); obtain ⟨t, rfl⟩ := rv; simp only [deq]; exact ⟨RcAt.bool_str a i t, EqAt.bool_str a i t⟩
      | tup ds => obtain ⟨a', xs, rfl, ha, _⟩ := hy; cases rv; obtain ⟨its, r, ht⟩ := I.tupK ha; simp only [deq]; exact ⟨RcAt.bool_tuple a ht hu', EqAt.bool_tuple a ht hu'⟩
      | lst ds => obtain ⟨a', xs, rfl, ha, _⟩ := hy; cases rv; obtain ⟨its, r, ht⟩ := I.lstK ha; simp only [deq]; exact ⟨RcAt.bool_list a ht hu', EqAt.bool_list a ht hu'⟩
    | int a =>
      cases (show x = .int a from hx); obtain ⟨ta, rfl⟩ := ru
      cases d' with
      | non => cases (show y = .non from hy); cases rv; simp only [deq]; exact ⟨RcAt.int_none a ta, EqAt.int_none a ta⟩
      | bl b => cases (show y = .bl b from hy); cases rv; simp only [deq]; exact ⟨RcAt.int_bool a ta b, EqAt.int_bool a ta b⟩
      | int i => cases (show y = .int i from hy); obtain ⟨t, rfl⟩ := rv; simp only [deq]; exact ⟨RcAt.int_int a ta i t, EqAt.int_int a ta i t⟩
      | str i => cases (show y = .str i from hy); obtain ⟨t, rfl⟩ := rv; simp only [deq]; exact ⟨RcAt.int_str a ta i t, EqAt.int_str a ta i t⟩
      | tup ds => obtain ⟨a', xs, rfl, ha, _⟩ := hy; cases rv; obtain ⟨its, r, ht⟩ := I.tupK ha; simp only [deq]; exact ⟨RcAt.int_tuple a ta ht hu', EqAt.int_tuple a ta ht hu'⟩
      | lst ds => obtain ⟨a', xs, rfl, ha, _⟩ := hy; cases rv; obtain ⟨its, r, ht⟩ := I.lstK ha; simp only [deq]; exact ⟨RcAt.int_list a ta ht hu', EqAt.int_list a ta ht hu'⟩
    | str a =>
      cases (show x = .str a from hx); obtain ⟨ta, rfl⟩ := ru
      cases d' with
      | non => cases (show y = .non from hy); cases rv; simp only [deq]; exact ⟨RcAt.str_none a ta, EqAt.str_none a ta⟩
      | bl b => cases (show y = .bl b from hy); cases rv; simp only [deq]; exact ⟨RcAt.str_bool a ta b, EqAt.str_bool a ta b⟩
      | int i => cases (show y = .int i from hy); obtain ⟨t, rfl⟩ := rv; simp only [deq]; exact ⟨RcAt.str_int a ta i t, EqAt.str_int a ta i t⟩
      | str i => cases (show y = .str i from hy); obtain ⟨t, rfl⟩ := rv; simp only [deq]; exact ⟨RcAt.str_str a ta i t, EqAt.str_str a ta i t⟩
      | tup ds => obtain ⟨a', xs, rfl, ha, _⟩ := hy; cases rv; obtain ⟨its, r, ht⟩ := I.tupK ha; simp only [deq]; exact ⟨RcAt.str_tuple a ta ht hu', EqAt.str_tuple a ta ht hu'⟩
      | lst ds => obtain ⟨a', xs, rfl, ha, _⟩ := hy; cases rv; obtain ⟨its, r, ht⟩ := I.lstK ha; simp only [deq]; exact ⟨RcAt.str_list a ta ht hu', EqAt.str_list a ta ht hu'⟩
  | succ n ih =>
    intro A d d' x y u v hd hu hx hy ru rv
    have hu' : A.units < cLine := by omega
    have hin : A.in1.units + n < cLine := by show A.units + 1 + n < cLine; omega
    by_cases h0 : d.deep ≤ n
    · exact ih A d d' x y u v h0 (by omega) hx hy ru rv
    cases d with
    | tup ds =>
      have hds : D.deeps ds ≤ n := by simp [D.deep] at hd; exact hd
      obtain ⟨a, xs, rfl, ha, hs⟩ := id hx
      cases ru
      obtain ⟨its, r, ht⟩ := I.tupK ha
      cases d' with
      | non => cases (show y = .non from hy); cases rv; simp only [deq]; exact ⟨RcAt.tuple_none ht hu', EqAt.tuple_none ht hu'⟩
      | bl b => cases (show y = .bl b from hy); cases rv; simp only [deq]; exact ⟨RcAt.tuple_bool b ht hu', EqAt.tuple_bool b ht hu'⟩
      | int i => cases (show y = .int i from hy); obtain ⟨t, rfl⟩ := rv; simp only [deq]; exact ⟨RcAt.tuple_int i t ht hu', EqAt.tuple_int i t ht hu'⟩
      | str i => cases (show y = .str i from hy); obtain ⟨t, rfl⟩ := rv; simp only [deq]; exact ⟨RcAt.tuple_str i t ht hu', EqAt.tuple_str i t ht hu'⟩
      | lst ds' => obtain ⟨a', xs', rfl, ha', _⟩ := hy; cases rv; obtain ⟨its', r', ht'⟩ := I.lstK ha'; simp only [deq]; exact ⟨RcAt.tuple_list ht ht' hu', EqAt.tuple_list ht ht' hu'⟩
      | tup ds' =>
        obtain ⟨a', xs', rfl, ha', hs'⟩ := id hy
        cases rv
        obtain ⟨its', r', ht'⟩ := I.tupK ha'
        have rc : RcAt A s (.ref a) (.ref a') (deq (.tup ds) (.tup ds')) := by
          have z := RcAt.tuples (A := A) (s := s) (e := fun j => deq (ds.getD j .non) (ds'.getD j .non)) ht ht' hu' (seq_itemsK r r' hs hs' fun j e e' x y u v h1 h2 h3 h4 h5 h6 => (ih A.in1 e e' x y u v (Nat.le_trans (deep_mem h1) hds) hin h3 h4 h5 h6).2)
          have e1 : its.toArray.size = ds.length := by rw [List.size_toArray, ← r.length, hs.length]
          have e2 : its'.toArray.size = ds'.length := by rw [List.size_toArray, ← r'.length, hs'.length]
          rw [e1, e2, deqs_range] at z
          simp only [deq]
          exact z
        refine ⟨rc, ?_⟩
        by_cases hne : a = a'
        · subst hne
          have : D.tup ds = D.tup ds' := RepK.inj I hx hy
          rw [← this, deq_refl]
          exact EqAt.same _
        · exact EqAt.of_refs hne rc
    | lst ds =>
      have hds : D.deeps ds ≤ n := by simp [D.deep] at hd; exact hd
      obtain ⟨a, xs, rfl, ha, hs⟩ := id hx
      cases ru
      obtain ⟨its, r, ht⟩ := I.lstK ha
      cases d' with
      | non => cases (show y = .non from hy); cases rv; simp only [deq]; exact ⟨RcAt.list_none ht hu', EqAt.list_none ht hu'⟩
      | bl b => cases (show y = .bl b from hy); cases rv; simp only [deq]; exact ⟨RcAt.list_bool b ht hu', EqAt.list_bool b ht hu'⟩
      | int i => cases (show y = .int i from hy); obtain ⟨t, rfl⟩ := rv; simp only [deq]; exact ⟨RcAt.list_int i t ht hu', EqAt.list_int i t ht hu'⟩
      | str i => cases (show y = .str i from hy); obtain ⟨t, rfl⟩ := rv; simp only [deq]; exact ⟨RcAt.list_str i t ht hu', EqAt.list_str i t ht hu'⟩
      | tup ds' => obtain ⟨a', xs', rfl, ha', _⟩ := hy; cases rv; obtain ⟨its', r', ht'⟩ := I.tupK ha'; simp only [deq]; exact ⟨RcAt.list_tuple ht ht' hu', EqAt.list_tuple ht ht' hu'⟩
      | lst ds' =>
        obtain ⟨a', xs', rfl, ha', hs'⟩ := id hy
        cases rv
        obtain ⟨its', r', ht'⟩ := I.lstK ha'
        have e1 : its.toArray.size = ds.length := by rw [List.size_toArray, ← r.length, hs.length]
        have e2 : its'.toArray.size = ds'.length := by rw [List.size_toArray, ← r'.length, hs'.length]
        have rc : RcAt A s (.ref a) (.ref a') (deq (.lst ds) (.lst ds')) := by
          simp only [deq]
          by_cases hl : ds.length = ds'.length
          · have z := RcAt.lists (A := A) (s := s) (e := fun j => deq (ds.getD j .non) (ds'.getD j .non)) ht ht' (by rw [e1, e2]; exact hl) hu' (seq_itemsK r r' hs hs' fun j e e' x y u v h1 h2 h3 h4 h5 h6 => (ih A.in1 e e' x y u v (Nat.le_trans (deep_mem h1) hds) hin h3 h4 h5 h6).2)
            have q := deqs_range (ds := ds) (ds' := ds')
            rw [← hl, Nat.min_self, beq_self_eq_true, Bool.and_true] at q
            rw [e1, q] at z
            exact z
          · have z := RcAt.lists_lengths (A := A) (s := s) ht ht' (by rw [e1, e2]; simpa using hl) hu'
            have q := deqs_range (ds := ds) (ds' := ds')
            rw [show (ds.length == ds'.length) = false from beq_eq_false_iff_ne.mpr hl, Bool.and_false] at q
            rw [← q]
            exact z
        refine ⟨rc, ?_⟩
        by_cases hne : a = a'
        · subst hne
          have : D.lst ds = D.lst ds' := RepK.inj I hx hy
          rw [← this, deq_refl]
          exact EqAt.same _
        · exact EqAt.of_refs hne rc
    | _ => exact absurd (by simp [D.deep]) h0

def rEqK (K : PySem.W.Frag) : R2 := fun x y H Q => ∃ d d', RepK K H d x ∧ RepK K H d' y ∧ d.deep ≤ 150 ∧ Q (.bl (deq d d')) H
theorem op_eqK (hu : X.A.units + 150 < cLine) : OpR X (compareOp .Eq) (rEqK X.K) := by
  intro pins s σ H x y v u Q I rx ry h
  obtain ⟨d, d', h1, h2, h3, q⟩ := h
  exact (rc_and_eqK I 150 X.A d d' x y v u h3 hu h1 h2 rx ry).1 X.prog X.w X.xe _ ⟨.bl _, H, I, rfl, q⟩
theorem rc_neK (I : Inv X pins σ H s) (A : Around) (d d' : D) (x y : V) (u v : Value) (hd : d.deep ≤ 150) (hu : A.units + 151 < cLine) (hx : RepK X.K H d x) (hy : RepK X.K H d' y) (ru : RelV x u) (rv : RelV y v) : RcNeAt A s u v (!deq d d') := by
  have hu' : A.units < cLine := by omega
  have hin : A.in1.units + 150 < cLine := by show A.units + 1 + 150 < cLine; omega
  cases d with
  | non =>
    cases (show x = .non from hx); cases ru
    cases d' with
    | non => cases (show y = .non from hy); cases rv; simp only [deq]; exact RcNeAt.none_none
    | bl b2 => cases (show y = .bl b2 from hy); cases rv; simp only [deq]; exact RcNeAt.none_bool b2
    | int b2 => cases (show y = .int b2 from hy); obtain ⟨t2, rfl⟩ := rv; simp only [deq]; exact RcNeAt.none_int b2 t2
    | str b2 => cases (show y = .str b2 from hy); obtain ⟨t2, rfl⟩ := rv; simp only [deq]; exact RcNeAt.none_str b2 t2
    | tup ds2 => obtain ⟨a2, xs2, rfl, ha2, hs2⟩ := id hy; cases rv; obtain ⟨its2, r2, ht2⟩ := I.tupK ha2; simp only [deq]; exact RcNeAt.none_tuple ht2 hu'
    | lst ds2 => obtain ⟨a2, xs2, rfl, ha2, hs2⟩ := id hy; cases rv; obtain ⟨its2, r2, ht2⟩ := I.lstK ha2; simp only [deq]; exact RcNeAt.none_list ht2 hu'
  | bl b1 =>
    cases (show x = .bl b1 from hx); cases ru
    cases d' with
    | non => cases (show y = .non from hy); cases rv; simp only [deq]; exact RcNeAt.bool_none b1
    | bl b2 => cases (show y = .bl b2 from hy); cases rv; simp only [deq]; exact RcNeAt.bool_bool b1 b2
    | int b2 => cases (show y = .int b2 from hy); obtain ⟨t2, rfl⟩ := rv; simp only [deq]; exact RcNeAt.bool_int b1 b2 t2
    | str b2 => cases (show y = .str b2 from hy); obtain ⟨t2, rfl⟩ := rv; simp only [deq]; exact RcNeAt.bool_str b1 b2 t2
    | tup ds2 => obtain ⟨a2, xs2, rfl, ha2, hs2⟩ := id hy; cases rv; obtain ⟨its2, r2, ht2⟩ := I.tupK ha2; simp only [deq]; exact RcNeAt.bool_tuple b1 ht2 hu'
    | lst ds2 => obtain ⟨a2, xs2, rfl, ha2, hs2⟩ := id hy; cases rv; obtain ⟨its2, r2, ht2⟩ := I.lstK ha2; simp only [deq]; exact RcNeAt.bool_list b1 ht2 hu'
  | int b1 =>
    cases (show x = .int b1 from hx); obtain ⟨t1, rfl⟩ := ru
    cases d' with
    | non => cases (show y = .non from hy); cases rv; simp only [deq]; exact RcNeAt.int_none b1 t1
    | bl b2 => cases (show y = .bl b2 from hy); cases rv; simp only [deq]; exact RcNeAt.int_bool b1 t1 b2
    | int b2 => cases (show y = .int b2 from hy); obtain ⟨t2, rfl⟩ := rv; simp only [deq]; exact RcNeAt.int_int b1 t1 b2 t2
    | str b2 => cases (show y = .str b2 from hy); obtain ⟨t2, rfl⟩ := rv; simp only [deq]; exact RcNeAt.int_str b1 t1 b2 t2
    | tup ds2 => obtain ⟨a2, xs2, rfl, ha2, hs2⟩ := id hy; cases rv; obtain ⟨its2, r2, ht2⟩ := I.tupK ha2; simp only [deq]; exact RcNeAt.int_tuple b1 t1 ht2 hu'
    | lst ds2 => obtain ⟨a2, xs2, rfl, ha2, hs2⟩ := id hy; cases rv; obtain ⟨its2, r2, ht2⟩ := I.lstK ha2; simp only [deq]; exact RcNeAt.int_list b1 t1 ht2 hu'
  | str b1 =>
    cases (show x = .str b1 from hx); obtain ⟨t1, rfl⟩ := ru
    cases d' with
    | non => cases (show y = .non from hy); cases rv; simp only [deq]; exact RcNeAt.str_none b1 t1
    | bl b2 => cases (show y = .bl b2 from hy); cases rv; simp only [deq]; exact RcNeAt.str_bool b1 t1 b2
    | int b2 => cases (show y = .int b2 from hy); obtain ⟨t2, rfl⟩ := rv; simp only [deq]; exact RcNeAt.str_int b1 t1 b2 t2
    | str b2 => cases (show y = .str b2 from hy); obtain ⟨t2, rfl⟩ := rv; simp only [deq]; exact RcNeAt.str_str b1 t1 b2 t2
    | tup ds2 => obtain ⟨a2, xs2, rfl, ha2, hs2⟩ := id hy; cases rv; obtain ⟨its2, r2, ht2⟩ := I.tupK ha2; simp only [deq]; exact RcNeAt.str_tuple b1 t1 ht2 hu'
    | lst ds2 => obtain ⟨a2, xs2, rfl, ha2, hs2⟩ := id hy; cases rv; obtain ⟨its2, r2, ht2⟩ := I.lstK ha2; simp only [deq]; exact RcNeAt.str_list b1 t1 ht2 hu'
  | tup ds1 =>
    obtain ⟨a1, xs1, rfl, ha1, hs1⟩ := id hx; cases ru; obtain ⟨its1, r1, ht1⟩ := I.tupK ha1
    cases d' with
    | non => cases (show y = .non from hy); cases rv; simp only [deq]; exact RcNeAt.tuple_none ht1 hu'
    | bl b2 => cases (show y = .bl b2 from hy); cases rv; simp only [deq]; exact RcNeAt.tuple_bool b2 ht1 hu'
    | int b2 => cases (show y = .int b2 from hy); obtain ⟨t2, rfl⟩ := rv; simp only [deq]; exact RcNeAt.tuple_int b2 t2 ht1 hu'
    | str b2 => cases (show y = .str b2 from hy); obtain ⟨t2, rfl⟩ := rv; simp only [deq]; exact RcNeAt.tuple_str b2 t2 ht1 hu'
    | tup ds2 =>
      obtain ⟨a2, xs2, rfl, ha2, hs2⟩ := id hy; cases rv; obtain ⟨its2, r2, ht2⟩ := I.tupK ha2
      have hds : D.deeps ds1 ≤ 150 := by have := hd; simp [D.deep] at this; omega
      have z := RcNeAt.tuples (A := A) (s := s) (e := fun j => deq (ds1.getD j .non) (ds2.getD j .non)) ht1 ht2 hu' (seq_itemsK r1 r2 hs1 hs2 fun j e e' x y u v h1 h2 h3 h4 h5 h6 => (rc_and_eqK I 150 A.in1 e e' x y u v (Nat.le_trans (deep_mem h1) hds) hin h3 h4 h5 h6).2)
      have e1 : its1.toArray.size = ds1.length := by rw [List.size_toArray, ← r1.length, hs1.length]
      have e2 : its2.toArray.size = ds2.length := by rw [List.size_toArray, ← r2.length, hs2.length]
      rw [e1, e2, deqs_range] at z
      simp only [deq]
      exact z
    | lst ds2 => obtain ⟨a2, xs2, rfl, ha2, hs2⟩ := id hy; cases rv; obtain ⟨its2, r2, ht2⟩ := I.lstK ha2; simp only [deq]; exact RcNeAt.tuple_list ht1 ht2 hu'
  | lst ds1 =>
    obtain ⟨a1, xs1, rfl, ha1, hs1⟩ := id hx; cases ru; obtain ⟨its1, r1, ht1⟩ := I.lstK ha1
    cases d' with
    | non => cases (show y = .non from hy); cases rv; simp only [deq]; exact RcNeAt.list_none ht1 hu'
    | bl b2 => cases (show y = .bl b2 from hy); cases rv; simp only [deq]; exact RcNeAt.list_bool b2 ht1 hu'
    | int b2 => cases (show y = .int b2 from hy); obtain ⟨t2, rfl⟩ := rv; simp only [deq]; exact RcNeAt.list_int b2 t2 ht1 hu'
    | str b2 => cases (show y = .str b2 from hy); obtain ⟨t2, rfl⟩ := rv; simp only [deq]; exact RcNeAt.list_str b2 t2 ht1 hu'
    | tup ds2 => obtain ⟨a2, xs2, rfl, ha2, hs2⟩ := id hy; cases rv; obtain ⟨its2, r2, ht2⟩ := I.tupK ha2; simp only [deq]; exact RcNeAt.list_tuple ht1 ht2 hu'
    | lst ds2 =>
      obtain ⟨a2, xs2, rfl, ha2, hs2⟩ := id hy; cases rv; obtain ⟨its2, r2, ht2⟩ := I.lstK ha2
      have hds : D.deeps ds1 ≤ 150 := by have := hd; simp [D.deep] at this; omega
      have e1 : its1.toArray.size = ds1.length := by rw [List.size_toArray, ← r1.length, hs1.length]
      have e2 : its2.toArray.size = ds2.length := by rw [List.size_toArray, ← r2.length, hs2.length]
      simp only [deq]
      by_cases hl : ds1.length = ds2.length
      · have z := RcNeAt.lists (A := A) (s := s) (e := fun j => deq (ds1.getD j .non) (ds2.getD j .non)) ht1 ht2 (by rw [e1, e2]; exact hl) hu' (seq_itemsK r1 r2 hs1 hs2 fun j e e' x y u v h1 h2 h3 h4 h5 h6 => (rc_and_eqK I 150 A.in1 e e' x y u v (Nat.le_trans (deep_mem h1) hds) hin h3 h4 h5 h6).2)
        have q := deqs_range (ds := ds1) (ds' := ds2)
        rw [← hl, Nat.min_self, beq_self_eq_true, Bool.and_true] at q
        rw [e1, q] at z
        exact z
      · have z := RcNeAt.lists_lengths (A := A) (s := s) ht1 ht2 (by rw [e1, e2]; simpa using hl) hu'
        have q := deqs_range (ds := ds1) (ds' := ds2)
        rw [show (ds1.length == ds2.length) = false from beq_eq_false_iff_ne.mpr hl, Bool.and_false] at q
        rw [← q]
        exact z
def rNeK (K : PySem.W.Frag) : R2 := fun x y H Q => ∃ d d', RepK K H d x ∧ RepK K H d' y ∧ d.deep ≤ 150 ∧ Q (.bl (!deq d d')) H
theorem op_neK (hu : X.A.units + 151 < cLine) : OpR X (compareOp .NotEq) (rNeK X.K) := by
  intro pins s σ H x y v u Q I rx ry h
  obtain ⟨d, d', h1, h2, h3, q⟩ := h
  exact rc_neK I X.A d d' x y v u h3 hu h1 h2 rx ry X.prog X.w X.xe _ ⟨.bl _, H, I, rfl, q⟩
noncomputable def eOfK (K : PySem.W.Frag) (H : Hp) (d : D) (y : Value) : Bool := @decide (∃ (d' : D) (v' : V), RelV v' y ∧ RepK K H d' v' ∧ deq d' d = true) (Classical.propDecidable _)
theorem eOfK_eq (I : Inv X pins σ H s) {d d' : D} {v' : V} {y : Value} (r : RelV v' y) (h : RepK X.K H d' v') : eOfK X.K H d y = deq d' d := by
  unfold eOfK
  cases e : deq d' d with
  | true => exact @decide_eq_true _ (Classical.propDecidable _) ⟨d', v', r, h, e⟩
  | false =>
    refine @decide_eq_false _ (Classical.propDecidable _) ?_
    rintro ⟨d2, v2, r2, h2, e2⟩
    rw [r2.inj r] at h2
    rw [RepK.inj I h2 h, e] at e2
    cases e2
theorem any_eOfK (I : Inv X pins σ H s) {d : D} : ∀ {ds : List D} {xs : List V} {us : List Value}, Vals xs us → RepKs X.K H ds xs → us.any (eOfK X.K H d) = ds.any fun e => deq e d
  | [], xs, us, r, h => by cases (show xs = [] from h); cases r; rfl
  | e :: ds, xs, us, r, h => by
    obtain ⟨x, xr, rfl, h1, h2⟩ := h
    cases r with
    | cons r1 r2 => rw [List.any_cons, List.any_cons, eOfK_eq I r1 h1, any_eOfK I r2 h2]
theorem mem_eOfK (I : Inv X pins σ H s) {A : Around} (hu : A.units + 150 < cLine) {d : D} {x : V} {v : Value} (rx : RelV x v) (hx : RepK X.K H d x) : ∀ {ds : List D} {xs : List V} {us : List Value}, Vals xs us → RepKs X.K H ds xs → D.deeps ds ≤ 150 → ∀ u ∈ us, EqAt A s u v (eOfK X.K H d u)
  | [], xs, us, r, h, _, u, hm => by cases (show xs = [] from h); cases r; cases hm
  | e :: ds, xs, us, r, h, hd, u, hm => by
    obtain ⟨y, xr, rfl, h1, h2⟩ := h
    have hd' : e.deep ≤ 150 ∧ D.deeps ds ≤ 150 := by simp [D.deeps] at hd; omega
    cases r with
    | cons r1 r2 =>
      rcases List.mem_cons.mp hm with rfl | hm
      · rw [eOfK_eq I r1 h1]
        exact (rc_and_eqK I 150 A e d y x u v hd'.1 hu h1 hx r1 rx).2
      · exact mem_eOfK I hu rx hx r2 h2 hd'.2 u hm
def rInK (K : PySem.W.Frag) (neg : Bool) : R2 := fun x y H Q => ∃ (p : Addr) (xs : List V) (ds : List D) (d : D), y = .ref p ∧ (SqL K H p xs ∨ SqT K H p xs) ∧ RepKs K H ds xs ∧ RepK K H d x ∧ D.deeps ds ≤ 150 ∧ Q (.bl (if neg then !(ds.any fun e => deq e d) else ds.any fun e => deq e d)) H
theorem op_inK (hu : X.A.units + 151 < cLine) : OpR X (compareOp .In) (rInK X.K false) := by
  intro pins s σ H x y v u Q I rx ry h
  obtain ⟨p, xs, ds, d, rfl, hq, hs, hx, hd, q⟩ := h
  cases ry
  have hu' : X.A.in1.units + 150 < cLine := by show X.A.units + 1 + 150 < cLine; omega
  rcases hq with hq | hq
  · obtain ⟨its, r, pl⟩ := I.lstK hq
    refine SeqAt.in_listAt (eOfK X.K H d) pl (fun w hw => mem_eOfK I hu' rx hx r hs hd w (by simpa using hw)) ⟨.bl _, H, I, rfl, ?_⟩
    rw [show its.toArray.any (eOfK X.K H d) = its.any (eOfK X.K H d) by simp, any_eOfK I r hs]
    exact q
  · obtain ⟨its, r, pl⟩ := I.tupK hq
    refine SeqAt.in_tupleAt (eOfK X.K H d) pl (fun w hw => mem_eOfK I hu' rx hx r hs hd w (by simpa using hw)) ⟨.bl _, H, I, rfl, ?_⟩
    rw [show its.toArray.any (eOfK X.K H d) = its.any (eOfK X.K H d) by simp, any_eOfK I r hs]
    exact q
theorem op_notInK (hu : X.A.units + 151 < cLine) : OpR X (compareOp .NotIn) (rInK X.K true) := by
  intro pins s σ H x y v u Q I rx ry h
  obtain ⟨p, xs, ds, d, rfl, hq, hs, hx, hd, q⟩ := h
  cases ry
  have hu' : X.A.in1.units + 150 < cLine := by show X.A.units + 1 + 150 < cLine; omega
  rcases hq with hq | hq
  · obtain ⟨its, r, pl⟩ := I.lstK hq
    refine SeqAt.notIn_listAt (eOfK X.K H d) pl (fun w hw => mem_eOfK I hu' rx hx r hs hd w (by simpa using hw)) ⟨.bl _, H, I, rfl, ?_⟩
    rw [show its.toArray.any (eOfK X.K H d) = its.any (eOfK X.K H d) by simp, any_eOfK I r hs]
    exact q
  · obtain ⟨its, r, pl⟩ := I.tupK hq
    refine SeqAt.notIn_tupleAt (eOfK X.K H d) pl (fun w hw => mem_eOfK I hu' rx hx r hs hd w (by simpa using hw)) ⟨.bl _, H, I, rfl, ?_⟩
    rw [show its.toArray.any (eOfK X.K H d) = its.any (eOfK X.K H d) by simp, any_eOfK I r hs]
    exact q
end
end L2
namespace L2
open PySem PySem.Spec PyProof.Rows
mutual
def toDB (f : Nat → Option D) : M → Option D
  | .non => some .non
  | .bl b => some (.bl b)
  | .int i => some (.int i)
  | .str x => some (.str x)
  | .tup xs => (toDBs f xs).map .tup
  | .lst xs => (toDBs f xs).map .lst
  | .ref k => f k
  | .scr ns => some (.lst (ns.map D.int))
  | _ => none
def toDBs (f : Nat → Option D) : List M → Option (List D)
  | [] => some []
  | x :: xs => (toDB f x).bind fun d => (toDBs f xs).map (d :: ·)
end
def lookD (h : HpM) : Nat → Nat → Option D
  | 0, _ => none
  | q + 1, k => match h[k]? with | some (.lst xs) => (toDBs (lookD h q) xs).map .lst | _ => none
def toD (h : HpM) : M → Option D := toDB (lookD h 20)
def toDs (h : HpM) : List M → Option (List D) := toDBs (lookD h 20)
theorem RepKs.ints {K : PySem.W.Frag} {H : Hp} : ∀ {ns : List Int}, RepKs K H (ns.map D.int) (ns.map V.int)
  | [] => rfl
  | n :: ns => ⟨_, _, rfl, rfl, RepKs.ints⟩
mutual
theorem toDB_rep {K : PySem.W.Frag} {α : Pl} {H : Hp} {f : Nat → Option D} (hf : ∀ k d v, f k = some d → RepA K α H (.ref k) v → RepK K H d v) : ∀ {m : M} {d : D} {v : V}, toDB f m = some d → RepA K α H m v → RepK K H d v
  | .non, _, _, e, r => by cases e; exact r
  | .bl b, _, _, e, r => by cases e; exact r
  | .int b, _, _, e, r => by cases e; exact r
  | .str b, _, _, e, r => by cases e; exact r
  | .tup xs, _, _, e, r => by
    obtain ⟨ds, e1, e2⟩ := Option.map_eq_some_iff.mp e
    subst e2
    obtain ⟨a, vs, e3, t, rs⟩ := r
    exact ⟨a, vs, e3, t.sq, toDBs_rep hf e1 rs⟩
  | .lst xs, _, _, e, r => by
    obtain ⟨ds, e1, e2⟩ := Option.map_eq_some_iff.mp e
    subst e2
    obtain ⟨a, vs, e3, n, t, rs⟩ := r
    exact ⟨a, vs, e3, .of t, toDBs_rep hf e1 rs⟩
  | .ref k, _, _, e, r => hf k _ _ e r
  | .scr ns, _, _, e, r => by
    cases e
    obtain ⟨a, e3, t⟩ := r
    exact ⟨a, _, e3, t.sq, RepKs.ints⟩
  | .ty _, _, _, e, _ => by cases e
  | .dct _ _, _, _, e, _ => by cases e
theorem toDBs_rep {K : PySem.W.Frag} {α : Pl} {H : Hp} {f : Nat → Option D} (hf : ∀ k d v, f k = some d → RepA K α H (.ref k) v → RepK K H d v) : ∀ {m : List M} {d : List D} {v : List V}, toDBs f m = some d → RepAs K α H m v → RepKs K H d v
  | [], _, _, e, r => by cases e; exact r
  | x :: xs, _, _, e, r => by
    obtain ⟨d, e1, e2⟩ := Option.bind_eq_some_iff.mp e
    obtain ⟨ds, e3, e4⟩ := Option.map_eq_some_iff.mp e2
    subst e4
    obtain ⟨v, vs, rfl, h1, h2⟩ := r
    exact ⟨v, vs, rfl, toDB_rep hf e1 h1, toDBs_rep hf e3 h2⟩
end
theorem lookD_rep {K : PySem.W.Frag} {α : Pl} {h : HpM} {H : Hp} (hr : Rl K α h H) : ∀ (q k : Nat) (d : D) (v : V), lookD h q k = some d → RepA K α H (.ref k) v → RepK K H d v
  | 0, _, _, _, e, _ => by cases e
  | q + 1, k, d, v, e, ⟨a, ha, e2⟩ => by
    unfold lookD at e
    split at e
    · rename_i xs hx
      obtain ⟨ds, e3, e4⟩ := Option.map_eq_some_iff.mp e
      subst e4
      obtain ⟨vs, hv, rs⟩ := hr.obj k a _ ha hx
      exact ⟨a, vs, e2, .of hv, toDBs_rep (fun k d v => lookD_rep hr q k d v) e3 rs⟩
    · cases e
theorem toD_rep {K : PySem.W.Frag} {α : Pl} {h : HpM} {H : Hp} {m : M} {d : D} {v : V} (hr : Rl K α h H) (e : toD h m = some d) (r : RepA K α H m v) : RepK K H d v := toDB_rep (fun k d v => lookD_rep hr 20 k d v) e r
theorem toDs_rep {K : PySem.W.Frag} {α : Pl} {h : HpM} {H : Hp} {m : List M} {d : List D} {v : List V} (hr : Rl K α h H) (e : toDs h m = some d) (r : RepAs K α H m v) : RepKs K H d v := toDBs_rep (fun k d v => lookD_rep hr 20 k d v) e r
def opEq (x y : M) (h : HpM) : Option M := (toD h x).bind fun d => (toD h y).bind fun d' => if d.deep ≤ 150 then some (.bl (deq d d')) else none
def opNe (x y : M) (h : HpM) : Option M := (toD h x).bind fun d => (toD h y).bind fun d' => if d.deep ≤ 150 then some (.bl (!deq d d')) else none
section
variable {X : Cx} {K : PySem.W.Frag}
theorem fm_eq : OpM K (rEqK K) opEq := by
  intro α h H x y d u v Q hr rx ry e k
  obtain ⟨d1, e1, e⟩ := Option.bind_eq_some_iff.mp e
  obtain ⟨d2, e2, e⟩ := Option.bind_eq_some_iff.mp e
  split at e
  · rename_i hd
    cases e
    exact ⟨d1, d2, toD_rep hr e1 rx, toD_rep hr e2 ry, hd, k H _ (Same.refl _) rfl⟩
  · cases e
theorem fm_ne : OpM K (rNeK K) opNe := by
  intro α h H x y d u v Q hr rx ry e k
  obtain ⟨d1, e1, e⟩ := Option.bind_eq_some_iff.mp e
  obtain ⟨d2, e2, e⟩ := Option.bind_eq_some_iff.mp e
  split at e
  · rename_i hd
    cases e
    exact ⟨d1, d2, toD_rep hr e1 rx, toD_rep hr e2 ry, hd, k H _ (Same.refl _) rfl⟩
  · cases e
def subIn (i j : Str) : Bool := !(Builtin.Str.occurrences j i 0 j.length 1).isEmpty
def anyD (x : M) (xs : List M) (h : HpM) (f : Bool → M) : Option M := (toDs h xs).bind fun ds => (toD h x).bind fun d => if D.deeps ds ≤ 150 then some (f (ds.any fun e => deq e d)) else none
def opIn (x y : M) (h : HpM) : Option M := match dctOf h y with
  | some kvs => (keyM x).map fun k => .bl (valM kvs k).isSome
  | none => (match y with
  | .str j => (match x with | .str i => some (.bl (subIn i j)) | _ => none)
  | .tup xs => anyD x xs h fun b => .bl b
  | y => (seqR h y).bind fun xs => anyD x xs h fun b => .bl b)
def opNotIn (x y : M) (h : HpM) : Option M := match dctOf h y with
  | some kvs => (keyM x).map fun k => .bl (!(valM kvs k).isSome)
  | none => (match y with
  | .str j => (match x with | .str i => some (.bl (!subIn i j)) | _ => none)
  | .tup xs => anyD x xs h fun b => .bl (!b)
  | y => (seqR h y).bind fun xs => anyD x xs h fun b => .bl (!b))
def rInDct : R2 := fun x y H Q => ∃ a o, y = .ref a ∧ DGet H a x o ∧ Q (.bl o.isSome) H
def rNotInDct : R2 := fun x y H Q => ∃ a o, y = .ref a ∧ DGet H a x o ∧ Q (.bl (!o.isSome)) H
theorem op_inDct (hu : X.A.units + 1 < cLine) : OpR X (compareOp .In) rInDct := by
  intro pins s σ H x y v u Q I rx ry q
  obtain ⟨a, o, rfl, g, q⟩ := q
  cases (show u = .ref a from ry)
  exact d_in hu I g rx fun s' I' => ⟨.bl o.isSome, H, I', rfl, q⟩
theorem op_notInDct (hu : X.A.units + 1 < cLine) : OpR X (compareOp .NotIn) rNotInDct := by
  intro pins s σ H x y v u Q I rx ry q
  obtain ⟨a, o, rfl, g, q⟩ := q
  cases (show u = .ref a from ry)
  exact d_notIn hu I g rx fun s' I' => ⟨.bl (!o.isSome), H, I', rfl, q⟩
def rInM (K : PySem.W.Frag) : R2 := fun x y H Q => rInDct x y H Q ∨ rInK K false x y H Q ∨ ∃ i j, x = .str i ∧ y = .str j ∧ Q (.bl (!(Builtin.Str.occurrences j i 0 j.length 1).isEmpty)) H
def rNotInM (K : PySem.W.Frag) : R2 := fun x y H Q => rNotInDct x y H Q ∨ rInK K true x y H Q ∨ ∃ i j, x = .str i ∧ y = .str j ∧ Q (.bl (!(!(Builtin.Str.occurrences j i 0 j.length 1).isEmpty))) H
theorem op_inM (hu : X.A.units + 151 < cLine) : OpR X (compareOp .In) (rInM X.K) := (op_inDct (by omega)).or ((op_inK hu).or op_in_str)
theorem op_notInM (hu : X.A.units + 151 < cLine) : OpR X (compareOp .NotIn) (rNotInM X.K) := (op_notInDct (by omega)).or ((op_notInK hu).or op_notIn_str)
theorem anyD_inv {x : M} {xs : List M} {h : HpM} {f : Bool → M} {d : M} (e : anyD x xs h f = some d) : ∃ ds dx, toDs h xs = some ds ∧ toD h x = some dx ∧ D.deeps ds ≤ 150 ∧ d = f (ds.any fun e => deq e dx) := by
  obtain ⟨ds, e1, e⟩ := Option.bind_eq_some_iff.mp e
  obtain ⟨dx, e2, e⟩ := Option.bind_eq_some_iff.mp e
  split at e
  · rename_i hd; cases e; exact ⟨ds, dx, e1, e2, hd, rfl⟩
  · cases e
theorem fm_in : OpM K (rInM K) opIn := by
  intro α h H x y d u v Q hr rx ry e k
  unfold opIn at e
  split at e
  · rename_i kvs hk
    obtain ⟨key, e1, e2⟩ := Option.map_eq_some_iff.mp e
    subst e2
    obtain ⟨a, ws, rfl, ha, ek, rs⟩ := dctOf_rep hr ry hk
    cases (keyM_rep e1 rx)
    exact .inl ⟨a, _, rfl, (.inl ⟨_, _, ha, rfl, rfl⟩), by rw [(valM_rep key ek rs).1]; exact k H _ (Same.refl _) rfl⟩
  refine .inr ?_
  split at e
  · split at e
    · cases e
      exact .inr ⟨_, _, rx, ry, k H _ (Same.refl _) rfl⟩
    · cases e
  · obtain ⟨ds, dx, e1, e2, hd, rfl⟩ := anyD_inv e
    obtain ⟨a, vs, rfl, t, rs⟩ := ry
    exact .inl ⟨a, vs, ds, dx, rfl, .inr t.sq, toDs_rep hr e1 rs, toD_rep hr e2 rx, hd, k H _ (Same.refl _) rfl⟩
  · obtain ⟨xs, e0, e⟩ := Option.bind_eq_some_iff.mp e
    obtain ⟨ds, dx, e1, e2, hd, rfl⟩ := anyD_inv e
    obtain ⟨a, vs, rfl, t, rs⟩ := seqR_rep hr ry e0
    exact .inl ⟨a, vs, ds, dx, rfl, .inl t, toDs_rep hr e1 rs, toD_rep hr e2 rx, hd, k H _ (Same.refl _) rfl⟩
theorem fm_notIn : OpM K (rNotInM K) opNotIn := by
  intro α h H x y d u v Q hr rx ry e k
  unfold opNotIn at e
  split at e
  · rename_i kvs hk
    obtain ⟨key, e1, e2⟩ := Option.map_eq_some_iff.mp e
    subst e2
    obtain ⟨a, ws, rfl, ha, ek, rs⟩ := dctOf_rep hr ry hk
    cases (keyM_rep e1 rx)
    exact .inl ⟨a, _, rfl, (.inl ⟨_, _, ha, rfl, rfl⟩), by rw [(valM_rep key ek rs).1]; exact k H _ (Same.refl _) rfl⟩
  refine .inr ?_
  split at e
  · split at e
    · cases e
      exact .inr ⟨_, _, rx, ry, k H _ (Same.refl _) rfl⟩
    · cases e
  · obtain ⟨ds, dx, e1, e2, hd, rfl⟩ := anyD_inv e
    obtain ⟨a, vs, rfl, t, rs⟩ := ry
    exact .inl ⟨a, vs, ds, dx, rfl, .inr t.sq, toDs_rep hr e1 rs, toD_rep hr e2 rx, hd, k H _ (Same.refl _) rfl⟩
  · obtain ⟨xs, e0, e⟩ := Option.bind_eq_some_iff.mp e
    obtain ⟨ds, dx, e1, e2, hd, rfl⟩ := anyD_inv e
    obtain ⟨a, vs, rfl, t, rs⟩ := seqR_rep hr ry e0
    exact .inl ⟨a, vs, ds, dx, rfl, .inl t, toDs_rep hr e1 rs, toD_rep hr e2 rx, hd, k H _ (Same.refl _) rfl⟩
def bLen (xs : List M) (h : HpM) : Option M := match xs with
  | [.str z] => if z.length ≤ 16777216 then some (.int z.length) else none
  | [.tup ys] => some (.int ys.length)
  | [.dct ks ys] => some (.int ks.length)
  | [x] => (match seqR h x with
    | some ys => some (.int ys.length)
    | none => (dctOf h x).map fun kvs => .int kvs.length)
  | _ => none
def rLenM (K : PySem.W.Frag) : List V → Hp → VK → Prop := fun xs H Q => (∃ z, xs = [.str z] ∧ z.length ≤ sizeLine ∧ Q (.int z.length) H) ∨ (∃ p ys, xs = [.ref p] ∧ (SqL K H p ys ∨ SqT K H p ys) ∧ Q (.int ys.length) H) ∨ ∃ a kvs, xs = [V.ref a] ∧ Rd H a (.dK kvs) ∧ Q (.int kvs.length) H
theorem call_lenM : CallR X (.builtin "len") (rLenM X.K) := by
  intro pins s σ H xs us Q I r h
  rcases h with h | h | h
  · exact call_len_str pins s σ H _ us Q I r h
  · exact call_len_seq pins s σ H _ us Q I r h
  · obtain ⟨a, kvs, rfl, ha, q⟩ := h
    obtain ⟨u, rfl, ru⟩ := vals1 r
    cases ru
    exact d_len I ha fun t s' I' => ⟨.int kvs.length, H, I', ⟨t, rfl⟩, q⟩
theorem rep1 {α : Pl} {H : Hp} {x : M} {us : List V} (r : RepAs K α H [x] us) : ∃ u, us = [u] ∧ RepA K α H x u := by
  obtain ⟨u, q, rfl, h1, h2⟩ := r
  cases (show q = [] from h2)
  exact ⟨u, rfl, h1⟩
theorem rep2 {α : Pl} {H : Hp} {x y : M} {us : List V} (r : RepAs K α H [x, y] us) : ∃ u v, us = [u, v] ∧ RepA K α H x u ∧ RepA K α H y v := by
  obtain ⟨u, q, rfl, h1, h2⟩ := r
  obtain ⟨v, rfl, h3⟩ := rep1 h2
  exact ⟨u, v, rfl, h1, h3⟩
theorem fm_len : CallM K (rLenM K) bLen := by
  intro α h H xs d us Q hr rs e k
  unfold bLen at e
  split at e
  · split at e
    · rename_i hl
      cases e
      obtain ⟨u, rfl, ru⟩ := rep1 rs
      cases (show u = .str _ from ru)
      exact .inl ⟨_, rfl, by rw [sizeLine_eq]; exact hl, k H _ (Same.refl _) rfl⟩
    · cases e
  · cases e
    obtain ⟨u, rfl, a, vs, rfl, t, rv⟩ := rep1 rs
    exact .inr (.inl ⟨a, vs, rfl, .inr t.sq, k H _ (Same.refl _) (by rw [rv.length]; rfl)⟩)
  · cases e
    obtain ⟨u, rfl, a, ws, rfl, n, ha, ek, rv⟩ := rep1 rs
    exact .inr (.inr ⟨a, ws, rfl, ha, k H _ (Same.refl _) (by rw [← ek, List.length_map]; rfl)⟩)
  · obtain ⟨u, rfl, ru⟩ := rep1 rs
    split at e
    · rename_i ys hy
      cases e
      obtain ⟨a, vs, rfl, t, rv⟩ := seqR_rep hr ru hy
      exact .inr (.inl ⟨a, vs, rfl, .inl t, k H _ (Same.refl _) (by rw [rv.length]; rfl)⟩)
    · obtain ⟨kvs, e1, e2⟩ := Option.map_eq_some_iff.mp e
      subst e2
      obtain ⟨a, ws, rfl, ha, ek, rv⟩ := dctOf_rep hr ru e1
      refine .inr (.inr ⟨a, ws, rfl, ha, k H _ (Same.refl _) ?_⟩)
      have : ws.length = kvs.length := by have := congrArg List.length ek; simpa using this
      rw [this]; rfl
  · cases e
def bAbs (xs : List M) (_ : HpM) : Option M := match xs with | [.int i] => some (.int (if i < 0 then -i else i)) | _ => none
theorem fm_abs : CallM K (fun xs H Q => ∃ i, xs = [.int i] ∧ Q (.int (if i < 0 then -i else i)) H) bAbs := by
  intro α h H xs d us Q hr rs e k
  unfold bAbs at e
  split at e
  · cases e
    obtain ⟨u, rfl, ru⟩ := rep1 rs
    cases (show u = .int _ from ru)
    exact ⟨_, rfl, k H _ (Same.refl _) rfl⟩
  · cases e
def bMin (xs : List M) (_ : HpM) : Option M := match xs with | [.int i, .int j] => some (.int (if j < i then j else i)) | _ => none
theorem fm_min : CallM K (fun xs H Q => ∃ i j, xs = [.int i, .int j] ∧ Q (.int (if j < i then j else i)) H) bMin := by
  intro α h H xs d us Q hr rs e k
  unfold bMin at e
  split at e
  · cases e
    obtain ⟨u, v, rfl, ru, rv⟩ := rep2 rs
    cases (show u = .int _ from ru)
    cases (show v = .int _ from rv)
    exact ⟨_, _, rfl, k H _ (Same.refl _) rfl⟩
  · cases e
def bInt (xs : List M) (_ : HpM) : Option M := match xs with | [.int i] => some (.int i) | [.bl b] => some (.int (if b then 1 else 0)) | _ => none
theorem fm_int : CallM K (fun xs H Q => (∃ i, xs = [.int i] ∧ Q (.int i) H) ∨ ∃ k, xs = [.bl k] ∧ Q (.int (if k then 1 else 0)) H) bInt := by
  intro α h H xs d us Q hr rs e k
  unfold bInt at e
  split at e
  · cases e
    obtain ⟨u, rfl, ru⟩ := rep1 rs
    cases (show u = .int _ from ru)
    exact .inl ⟨_, rfl, k H _ (Same.refl _) rfl⟩
  · cases e
    obtain ⟨u, rfl, ru⟩ := rep1 rs
    cases (show u = .bl _ from ru)
    exact .inr ⟨_, rfl, k H _ (Same.refl _) rfl⟩
  · cases e
def bls : List M → Option (List Bool)
  | [] => some []
  | .bl b :: r => (bls r).map (b :: ·)
  | _ => none
theorem bls_rep {α : Pl} {H : Hp} : ∀ {xs : List M} {bs : List Bool} {vs : List V}, bls xs = some bs → RepAs K α H xs vs → vs = bs.map V.bl
  | [], _, vs, e, r => by cases e; exact r
  | .bl b :: xs, _, vs, e, r => by
    obtain ⟨cs, e1, e2⟩ := Option.map_eq_some_iff.mp e
    subst e2
    obtain ⟨v, q, rfl, h1, h2⟩ := r
    rw [bls_rep e1 h2, show v = .bl b from h1]
    rfl
  | .non :: _, _, _, e, _ | .int _ :: _, _, _, e, _ | .str _ :: _, _, _, e, _ | .ty _ :: _, _, _, e, _ | .tup _ :: _, _, _, e, _ | .lst _ :: _, _, _, e, _ | .dct _ _ :: _, _, _, e, _ | .ref _ :: _, _, _, e, _ | .scr _ :: _, _, _, e, _ => by cases e
def bAll (xs : List M) (h : HpM) : Option M := match xs with | [x] => (seqL h x).bind fun ys => (bls ys).map fun bs => .bl (bs.all id) | _ => none
theorem fm_all : CallM K (fun xs H Q => ∃ (p : Addr) (bs : List Bool), xs = [.ref p] ∧ H p = some (.lst (bs.map V.bl)) ∧ Q (.bl (bs.all id)) H) bAll := by
  intro α h H xs d us Q hr rs e k
  unfold bAll at e
  split at e
  · obtain ⟨ys, e1, e⟩ := Option.bind_eq_some_iff.mp e
    obtain ⟨bs, e2, e3⟩ := Option.map_eq_some_iff.mp e
    subst e3
    obtain ⟨u, rfl, ru⟩ := rep1 rs
    obtain ⟨a, vs, rfl, ha, rv⟩ := seqL_rep hr ru e1
    rw [bls_rep e2 rv] at ha
    exact ⟨a, bs, rfl, ha, k H _ (Same.refl _) rfl⟩
  · cases e
def bTuple (xs : List M) (h : HpM) : Option M := match xs with | [.tup ys] => some (.tup ys) | [x] => (seqR h x).map .tup | _ => none
theorem fm_tuple : CallM K (fun xs H Q => ∃ p ys, xs = [.ref p] ∧ ((SqL K H p ys ∧ ∀ l, H l = none → Q (.ref l) (upd H l (.tup ys))) ∨ (SqT K H p ys ∧ Q (.ref p) H))) bTuple := by
  intro α h H xs d us Q hr rs e k
  unfold bTuple at e
  split at e
  · cases e
    obtain ⟨u, rfl, a, vs, rfl, t, rv⟩ := rep1 rs
    exact ⟨a, vs, rfl, .inr ⟨t.sq, k H _ (Same.refl _) ⟨a, vs, rfl, t, rv⟩⟩⟩
  · obtain ⟨ys, e1, e2⟩ := Option.map_eq_some_iff.mp e
    subst e2
    obtain ⟨u, rfl, ru⟩ := rep1 rs
    obtain ⟨a, vs, rfl, ha, rv⟩ := seqR_rep hr ru e1
    exact ⟨a, vs, rfl, .inl ⟨ha, fun l hl => k _ _ (same_new hl _) (laidT hr hl rv)⟩⟩
  · cases e
def tyM (h : HpM) : M → String
  | .non => "NoneType"
  | .bl _ => "bool"
  | .int _ => "int"
  | .str _ => "str"
  | .tup _ => "tuple"
  | .lst _ => "list"
  | .scr _ => "list"
  | .dct _ _ => "dict"
  | .ref k => (match h[k]? with | some (.lst _) => "list" | some (.dct _) => "dict" | none => "")
  | .ty _ => ""
def tysM : List M → Option (List String)
  | [] => some []
  | .ty c :: r => (tysM r).map (c :: ·)
  | _ => none
def okTy (c : String) : Bool := c == "str" || c == "int" || c == "bool" || c == "tuple" || c == "list"
def bInst (xs : List M) (h : HpM) : Option M := match xs with
  | [x, .ty c] => if tyM h x ≠ "" ∧ okTy c = true then some (.bl (instB (tyM h x) c)) else none
  | [x, .tup ts] => (tysM ts).bind fun cs => if tyM h x ≠ "" ∧ cs.all okTy = true then some (.bl (cs.any (instB (tyM h x)))) else none
  | _ => none
inductive TyK (K : PySem.W.Frag) (H : Hp) : V → String → Prop where
  | non : TyK K H .non "NoneType"
  | bl (x : Bool) : TyK K H (.bl x) "bool"
  | int (i : Int) : TyK K H (.int i) "int"
  | str (x : Str) : TyK K H (.str x) "str"
  | lst {a : Addr} {xs : List V} (e : SqL K H a xs) : TyK K H (.ref a) "list"
  | tup {a : Addr} {xs : List V} (e : SqT K H a xs) : TyK K H (.ref a) "tuple"
  | dK {a : Addr} {kvs : List (Key × V)} (e : Rd H a (.dK kvs)) : TyK K H (.ref a) "dict"
theorem tyM_rep {α : Pl} {h : HpM} {H : Hp} {m : M} {v : V} (hr : Rl K α h H) (r : RepA K α H m v) (n : tyM h m ≠ "") : TyK K H v (tyM h m) := by
  cases m with
  | non => cases (show v = .non from r); exact .non
  | bl b => cases (show v = .bl b from r); exact .bl b
  | int b => cases (show v = .int b from r); exact .int b
  | str b => cases (show v = .str b from r); exact .str b
  | ty b => exact absurd rfl n
  | tup xs => obtain ⟨a, vs, rfl, t, _⟩ := r; exact .tup t.sq
  | lst xs => obtain ⟨a, vs, rfl, _, t, _⟩ := r; exact .lst (.of t)
  | scr xs => obtain ⟨a, rfl, t⟩ := r; exact .lst t.sq
  | dct ks xs => obtain ⟨a, vs, rfl, _, t, _⟩ := r; exact .dK t
  | ref k =>
    obtain ⟨a, ha, rfl⟩ := r
    unfold tyM at n ⊢
    dsimp only at n ⊢
    cases e : h[k]? with
    | none => rw [e] at n; exact absurd rfl n
    | some o =>
      cases o with
      | lst xs => obtain ⟨vs, hv, _⟩ := hr.obj k a _ ha e; exact .lst (.of hv)
      | dct xs => obtain ⟨vs, hv, _⟩ := hr.obj k a _ ha e; exact .dK (.inl hv)
theorem TyK.name {H : Hp} {x : V} {t : String} (h : TyK K H x t) : t = "NoneType" ∨ t = "bool" ∨ t = "int" ∨ t = "str" ∨ t = "list" ∨ t = "tuple" ∨ t = "dict" := by cases h <;> simp
def rInstM (K : PySem.W.Frag) : List V → Hp → VK → Prop := fun xs H Q => (∃ x t c, xs = [x, .ty c] ∧ TyK K H x t ∧ okTy c = true ∧ Q (.bl (instB t c)) H) ∨
  ∃ (x : V) (t : String) (p : Addr) (cs : List String), xs = [x, .ref p] ∧ TyK K H x t ∧ SqT K H p (cs.map V.ty) ∧ cs.all okTy = true ∧ Q (.bl (cs.any (instB t))) H
theorem okTy_of {c : String} (h : okTy c = true) : c = "str" ∨ c = "int" ∨ c = "bool" ∨ c = "tuple" ∨ c = "list" := by
  simpa [okTy, or_assoc] using h
theorem call_instM : CallR X (.builtin "isinstance") (rInstM X.K) := by
  intro pins s σ H xs us Q I r h
  rcases h with ⟨x, t, c, rfl, ty, hc, q⟩ | ⟨x, t, p, cs, rfl, ty, hp, hc, q⟩
  · obtain ⟨u, w', rfl, ru, rw'⟩ := vals2 r
    obtain rfl : w' = Value.type c := rw'
    have e := kit_instB X.K ty.name (okTy_of hc)
    have fin : ∀ tk, EP X pins σ Q (.bool (instB t c)) { s with toks := tk } := fun tk => ⟨.bl _, H, I.tok _, rfl, q⟩
    cases ty with
    | non => cases (show u = Value.none from ru); exact PySem.W.kia_one PySem.W.kitx_none I.kIn True.intro e (fun z => nomatch z) fin
    | bl y => cases (show u = Value.bool y from ru); exact PySem.W.kia_one PySem.W.kitx_bool I.kIn True.intro e (fun z => nomatch z) fin
    | int i => obtain ⟨t, q⟩ := (show ∃ t, u = Value.int i t from ru); cases q; exact PySem.W.kia_one PySem.W.kitx_int I.kIn True.intro e (fun z => nomatch z) fin
    | str y => obtain ⟨t, q⟩ := (show ∃ t, u = Value.str y t from ru); cases q; exact PySem.W.kia_one PySem.W.kitx_str I.kIn True.intro e (fun z => nomatch z) fin
    | lst hx =>
      cases (show u = Value.ref _ from ru)
      obtain ⟨its, _, o, e1, c1, _⟩ := I.lstK hx
      exact PySem.W.kia_one PySem.W.kitx_list I.kIn ⟨o, e1, c1⟩ e (fun z => nomatch z) fin
    | tup hx =>
      cases (show u = Value.ref _ from ru)
      obtain ⟨its, _, o, e1, c1, _⟩ := I.tupK hx
      exact PySem.W.kia_one PySem.W.kitx_tuple I.kIn ⟨o, e1, c1⟩ e (fun z => nomatch z) fin
    | @dK a kvs ea =>
      cases (show u = Value.ref a from ru)
      obtain ⟨_, _, vs, _, p⟩ := dk_rd I.hok ea
      obtain ⟨o, es, ep, h1, h2, _⟩ := p
      exact PySem.W.kia_one PySem.W.kitx_dict I.kIn ⟨o, h1, h2.1⟩ e (fun z => nomatch z) fin
  · obtain ⟨u, w', rfl, ru, rw'⟩ := vals2 r
    obtain rfl : w' = Value.ref p := rw'
    have e := kitAny_of X.K ty.name (cs := cs) fun c hm => okTy_of (List.all_eq_true.mp hc c hm)
    obtain ⟨its, rv, ht⟩ := I.tupK hp
    have ei := vals_ty rv
    obtain ⟨⟨cls, dd, data, sl⟩, ho, hcl, n, hd⟩ := id ht
    simp only at hcl hd
    subst hcl hd
    rw [← ei] at e
    have fin : ∀ tk, EP X pins σ Q (.bool (cs.any (instB t))) { s with toks := tk } := fun tk => ⟨.bl _, H, I.tok _, rfl, q⟩
    cases ty with
    | non => cases (show u = Value.none from ru); exact PySem.W.kia_tup PySem.W.kitx_none I.kIn True.intro ho e (fun z => nomatch z) fin
    | bl y => cases (show u = Value.bool y from ru); exact PySem.W.kia_tup PySem.W.kitx_bool I.kIn True.intro ho e (fun z => nomatch z) fin
    | int i => obtain ⟨t, q⟩ := (show ∃ t, u = Value.int i t from ru); cases q; exact PySem.W.kia_tup PySem.W.kitx_int I.kIn True.intro ho e (fun z => nomatch z) fin
    | str y => obtain ⟨t, q⟩ := (show ∃ t, u = Value.str y t from ru); cases q; exact PySem.W.kia_tup PySem.W.kitx_str I.kIn True.intro ho e (fun z => nomatch z) fin
    | lst hx =>
      cases (show u = Value.ref _ from ru)
      obtain ⟨its, _, o, e1, c1, _⟩ := I.lstK hx
      exact PySem.W.kia_tup PySem.W.kitx_list I.kIn ⟨o, e1, c1⟩ ho e (fun z => nomatch z) fin
    | tup hx =>
      cases (show u = Value.ref _ from ru)
      obtain ⟨its, _, o, e1, c1, _⟩ := I.tupK hx
      exact PySem.W.kia_tup PySem.W.kitx_tuple I.kIn ⟨o, e1, c1⟩ ho e (fun z => nomatch z) fin
    | @dK a kvs ea =>
      cases (show u = Value.ref a from ru)
      obtain ⟨_, _, vs, _, p⟩ := dk_rd I.hok ea
      obtain ⟨o, es, ep, h1, h2, _⟩ := p
      exact PySem.W.kia_tup PySem.W.kitx_dict I.kIn ⟨o, h1, h2.1⟩ ho e (fun z => nomatch z) fin
theorem tysM_rep {α : Pl} {H : Hp} : ∀ {xs : List M} {cs : List String} {vs : List V}, tysM xs = some cs → RepAs K α H xs vs → vs = cs.map V.ty
  | [], _, vs, e, r => by cases e; exact r
  | .ty b :: xs, _, vs, e, r => by
    obtain ⟨cs, e1, e2⟩ := Option.map_eq_some_iff.mp e
    subst e2
    obtain ⟨v, q, rfl, h1, h2⟩ := r
    rw [tysM_rep e1 h2, show v = .ty b from h1]
    rfl
  | .non :: _, _, _, e, _ | .int _ :: _, _, _, e, _ | .str _ :: _, _, _, e, _ | .bl _ :: _, _, _, e, _ | .tup _ :: _, _, _, e, _ | .lst _ :: _, _, _, e, _ | .dct _ _ :: _, _, _, e, _ | .ref _ :: _, _, _, e, _ | .scr _ :: _, _, _, e, _ => by cases e
theorem fm_inst : CallM K (rInstM K) bInst := by
  intro α h H xs d us Q hr rs e k
  unfold bInst at e
  split at e
  · split at e
    · rename_i hc
      cases e
      obtain ⟨u, v, rfl, ru, rv⟩ := rep2 rs
      cases (show v = .ty _ from rv)
      exact .inl ⟨u, _, _, rfl, tyM_rep hr ru hc.1, hc.2, k H _ (Same.refl _) rfl⟩
    · cases e
  · obtain ⟨cs, e1, e⟩ := Option.bind_eq_some_iff.mp e
    split at e
    · rename_i hc
      cases e
      obtain ⟨u, v, rfl, ru, a, vs, rfl, t, rv⟩ := rep2 rs
      rw [tysM_rep e1 rv] at t
      exact .inr ⟨u, _, a, cs, rfl, tyM_rep hr ru hc.1, t.sq, hc.2, k H _ (Same.refl _) rfl⟩
    · cases e
  · cases e
end
end L2
namespace L2
open PySem PySem.Spec PyProof.Rows
section
variable {X : Cx} {K : PySem.W.Frag}
def onL (f : List M → Option (M × List M)) (x : M) (h : HpM) : Option (M × HpM) := match x with
  | .ref k => (match h[k]? with | some (.lst xs) => (f xs).map fun (d, ys) => (d, h.set k (.lst ys)) | _ => none)
  | _ => none
theorem onL_inv {f : List M → Option (M × List M)} {x : M} {h : HpM} {d : M} {h' : HpM} (e : onL f x h = some (d, h')) : ∃ k xs ys, x = .ref k ∧ h[k]? = some (.lst xs) ∧ f xs = some (d, ys) ∧ h' = h.set k (.lst ys) := by
  unfold onL at e
  split at e
  · split at e
    · rename_i hk
      obtain ⟨⟨d1, ys⟩, e1, e2⟩ := Option.map_eq_some_iff.mp e
      cases e2
      exact ⟨_, _, ys, rfl, hk, e1, rfl⟩
    · cases e
  · cases e
def gSubM (o i : FE) : FG := fun x ρ h => bnd (o ρ h) fun oo h1 => bnd (i ρ h1) fun ii h2 => match ii with
  | .int j => bnd (onL (fun ys => (ixN ys.length j).map fun q => (.non, ys.set q x)) oo h2) fun _ h3 => some (ρ, h3)
  | _ => none
theorem mg_sub {o i : Expr} {mo mi : FE} {pos : Pos} (ho : PE X o (tM X.K mo)) (hi : PE X i (tM X.K mi))
    (ha : ∀ v, assign (.Subscript o i pos) X.env v = (do
      let ov ← holding [v] (eval o X.env)
      let iv ← holding [v, ov] (eval i X.env)
      standAt pos
      holding [v, ov, iv] (setItem ov iv v)
      release [v, ov, iv] [])) : PG X (.Subscript o i pos) (gM X.K (gSubM mo mi)) := (pg_sub ho hi set_list ha).imp fun v σ H Q ⟨α, ρ, h, x, ρ', h', hσ, hr, rx, e, k⟩ => by
  obtain ⟨oo, h1, e1, e⟩ := bnd_inv e
  obtain ⟨ii, h2, e2, e⟩ := bnd_inv e
  split at e
  · obtain ⟨_, h3, e3, e⟩ := bnd_inv e
    cases e
    obtain ⟨q, xs, ys, rfl, hq, e4, rfl⟩ := onL_inv e3
    obtain ⟨j, e5, e6⟩ := Option.map_eq_some_iff.mp e4
    cases e6
    refine ⟨α, ρ, h, _, h1, hσ, hr, e1, fun α1 H1 u ev1 hr1 ru => ⟨α1, ρ, h1, _, h2, hσ.ev ev1, hr1, e2, fun α2 H2 w ev2 hr2 rw' => ?_⟩⟩
    obtain ⟨a, ha, rfl⟩ := ru
    have ha2 := ev2.ix ha
    obtain ⟨vs, hv, rvs⟩ := hr2.obj q a _ ha2 hq
    refine ⟨a, vs, _, j, rfl, rw', hv, by rw [← rvs.length]; exact e5, ?_⟩
    have ev : Ev α2 α2 H2 (upd H2 a (.lst (vs.set j v))) := Ev.write hr2 (List.mem_of_getElem? ha2)
    have evA := (ev1.trans ev2).trans ev
    exact k α2 _ σ evA (hr2.write ha2 ⟨_, upd_same, (rvs.set ((rx.ev ev1).ev ev2) j).ev ev⟩) (hσ.ev evA)
  · cases e
end
end L2
namespace L2
open PySem PySem.Spec PyProof.Rows
def ConstM (K : PySem.W.Frag) (d : M) (u : Value) : Prop := ∃ v, RelV v u ∧ ∀ α H, RepA K α H d v
section
variable {X : Cx} {a b c e o e' : Expr} {es : List Expr} {ma mb mc me : FE} {mas : FA} {tc : FT} {ms mr : FS} {g : FG} {pos p : Pos}
theorem me_glob {x : Str} {u : Value} {d : M} (q : NmOk X.env.scope x .globalImplicit) (hm : X.mg x = some u) (r : ConstM X.K d u) : PE X (.Name x pos) (tM X.K (mC d)) := by
  obtain ⟨v, rv, rd⟩ := r
  exact me_C (pe_globk q hm rv) rd
def sPar (i j : Nat) (a : FA) : FS := fun ρ h => bnd (a ρ h) fun xs h1 => match xs with | [x, y] => some (.nx ((ρ.set i (some x)).set j (some y)), h1) | _ => none
theorem ms_par {i j : Nat} {x y : Str} {px py pt : Pos} {kt k2 pt2} (hc : X.calm = true) (hN : X.N.Nodup) (hi : X.N[i]? = some x) (hj : X.N[j]? = some y) (hij : i ≠ j)
    (hx : X.env.scope.names.lookup x = some .local) (hy : X.env.scope.names.lookup y = some .local) (ha : PA X [a, b] (aM X.K mas))
    (hw : swappedStores [.Tuple [.Name x px, .Name y py] kt pt] (.Tuple [a, b] k2 pt2) X.env = pure (some [x, y]))
    (hs : swapsWithSole [.Tuple [.Name x px, .Name y py] kt pt] (.Tuple [a, b] k2 pt2) pos.line X.env = pure false) :
    PS X (.Assign [.Tuple [.Name x px, .Name y py] kt pt] (.Tuple [a, b] k2 pt2) pos) (sM X.K (sPar i j mas)) := (ps_par hc hN hi hj hij hx hy ha hw hs).imp fun D σ H ⟨α, ρ, h, d, h', hσ, hr, e, k⟩ => by
  obtain ⟨xs, h1, e1, e⟩ := bnd_inv e
  split at e
  · cases e
    refine ⟨α, ρ, h, _, _, hσ, hr, e1, fun α1 H1 vs ev1 hr1 rs => ?_⟩
    obtain ⟨u, v, rfl, ru, rv⟩ := rep2 rs
    exact ⟨u, v, rfl, k α1 H1 ev1 hr1 _ (((hσ.ev ev1).set ru).set rv)⟩
  · cases e
theorem me_chain3 {op op' op'' : CmpOp} {r r' r'' : R2} {f f' f'' : M → M → HpM → Option M} {md : FE} (ho : OpR X (compareOp op) r) (hf : OpM X.K r f) (ho' : OpR X (compareOp op') r') (hf' : OpM X.K r' f') (ho'' : OpR X (compareOp op'') r'') (hf'' : OpM X.K r'' f'')
    (ha : PE X a (tM X.K ma)) (hb : PE X b (tM X.K mb)) (hc : PE X c (tM X.K mc)) (he : PE X e (tM X.K md)) (hm : lastMarks [op, op', op''] [b, c, e] = false) :
    PE X (.Compare a [op, op', op''] [b, c, e] pos) (tM X.K (mChain3 f f' f'' ma mb mc md)) := (pe_chain3 ho ho' ho'' ha hb hc he hm).imp fun σ H Q ⟨α, ρ, h, d, h', hσ, hr, e, k⟩ => by
  obtain ⟨x, h1, e1, e⟩ := bnd_inv e
  obtain ⟨y, h2, e2, e⟩ := bnd_inv e
  obtain ⟨z, e3, e⟩ := Option.bind_eq_some_iff.mp e
  obtain ⟨q, rfl, e⟩ := asB_inv e
  refine ⟨α, ρ, h, x, h1, hσ, hr, e1, fun α1 H1 u ev1 hr1 rx => ⟨α1, ρ, h1, y, h2, hσ.ev ev1, hr1, e2, fun α2 H2 v ev2 hr2 ry =>
    hf α2 _ H2 x y _ u v _ hr2 (rx.ev ev2) ry e3 fun H3 w s rw => ⟨q, rw, ?_⟩⟩⟩
  have hr3 := hr2.same s
  have ev3 := (ev1.trans ev2).trans (Ev.same (α := α2) s)
  cases q with
  | false => cases e; exact k α2 H3 _ ev3 hr3 rfl
  | true =>
    obtain ⟨w', h4, e4, e⟩ := bnd_inv e
    obtain ⟨z', e5, e⟩ := Option.bind_eq_some_iff.mp e
    obtain ⟨q', rfl, e⟩ := asB_inv e
    refine ⟨α2, ρ, h2, w', h4, hσ.ev ev3, hr3, e4, fun α4 H4 v4 ev4 hr4 r4 => hf' α4 _ H4 y w' _ v v4 _ hr4 ((ry.ev (.same s)).ev ev4) r4 e5 fun H5 w5 s5 r5 => ⟨q', r5, ?_⟩⟩
    have hr5 := hr4.same s5
    have ev5 := (ev3.trans ev4).trans (Ev.same (α := α4) s5)
    cases q' with
    | false => cases e; exact k α4 H5 _ ev5 hr5 rfl
    | true =>
      obtain ⟨w6, h6, e6, e⟩ := bnd_inv e
      obtain ⟨e7, e8⟩ := map_inv e
      dsimp only at e7 e8
      subst e8
      exact ⟨α4, ρ, h4, w6, _, hσ.ev ev5, hr5, e6, fun α6 H6 v6 ev6 hr6 r6 => hf'' α6 _ H6 w' w6 _ v4 v6 _ hr6 ((r4.ev (.same s5)).ev ev6) r6 e7 fun H7 w7 s7 r7 => k α6 H7 w7 ((ev5.trans ev6).trans (.same s7)) (hr6.same s7) r7⟩
end
section
variable {P : Program} {w : World} {K : PySem.W.Frag} {mg : Str → Option Value} {base : Heap}
theorem FnOk.empty {CX : CXT} {k : Nat} {f : Addr} {fd : FuncData} {ps : List Str} : FnOk P w K mg base CX k f fd ps (spM K fun _ _ => none) :=
  ⟨fun vs H Q E ⟨_, _, _, _, _, _, _, e, _⟩ => (nomatch e), fun A outer s H args us vs Q E _ _ _ _ ⟨_, _, _, _, _, _, _, e, _⟩ => (nomatch e)⟩
end
def spLaw (K : PySem.W.Frag) : Sp := fun vs H Q _ => ∃ (a : Addr) (ns : List Int), vs = [.ref a] ∧ SqL K H a (ns.map V.int) ∧ ns.length ≤ 63 ∧ ∀ H', Q (.bl true) H'
theorem spLaw_of {K : PySem.W.Frag} {H : Hp} {a : Addr} {ns : List Int} (hl : ns.length ≤ 63) (hS : SqL K H a (ns.map V.int)) : spLaw K [.ref a] H (fun v _ => v = .bl true) fun _ _ _ => False := ⟨a, ns, rfl, hS, hl, fun _ => rfl⟩
theorem spLaw_spM {K : PySem.W.Frag} {m : FF} (hm : ∀ ns : List Int, ns.length ≤ 63 → ∃ h', m [.scr ns] [] = some (.bl true, h')) {vs : List V} {H : Hp} {Q : VK} {E : XK} (q : spLaw K vs H Q E) : spM K m vs H Q E := by
  obtain ⟨a, ns, rfl, hS, hl, k⟩ := q
  obtain ⟨h', e⟩ := hm ns hl
  refine ⟨⟨[], []⟩, [], [.scr ns], .bl true, h', ⟨_, _, rfl, ⟨a, rfl, ?_⟩, rfl⟩, ⟨rfl, by simp, by simp, by simp, fun k a o hk => by simp at hk⟩, e, fun α' H' v _ _ rv => ?_⟩
  · rcases hS with hS | hS
    · exact .inl ⟨hS, by simp, by simp⟩
    · exact .inr hS
  · cases (show v = .bl true from rv); exact k H'
end L2
namespace L2
open PySem PySem.Spec PyProof.Rows
section
variable {X : Cx} {K : PySem.W.Frag} {mas : FA} {p pos : Pos}
def intsM : List M → Option (List Int)
  | [] => some []
  | .int z :: r => (intsM r).map (z :: ·)
  | _ => none
theorem intsM_rep {α : Pl} {H : Hp} : ∀ {xs : List M} {cs : List Int} {vs : List V}, intsM xs = some cs → RepAs K α H xs vs → vs = cs.map V.int
  | [], _, vs, e, r => by cases e; exact r
  | .int b :: xs, _, vs, e, r => by
    obtain ⟨cs, e1, e2⟩ := Option.map_eq_some_iff.mp e
    subst e2
    obtain ⟨v, q, rfl, h1, h2⟩ := r
    rw [intsM_rep e1 h2, show v = .int b from h1]
    rfl
  | .non :: _, _, _, e, _ | .str _ :: _, _, _, e, _ | .ty _ :: _, _, _, e, _ | .bl _ :: _, _, _, e, _ | .tup _ :: _, _, _, e, _ | .lst _ :: _, _, _, e, _ | .dct _ _ :: _, _, _, e, _ | .ref _ :: _, _, _, e, _ | .scr _ :: _, _, _, e, _ => by cases e
theorem intsAre_of' {ys : List Int} : ∀ {us : List Value}, Vals (ys.map V.int) us → IntsAre us ys := by
  induction ys with
  | nil => intro us r; rw [List.map_nil] at r; cases r; exact .nil
  | cons n ns ih =>
    intro us r
    rw [List.map_cons] at r
    cases r with
    | cons r1 r2 =>
      obtain ⟨t, e⟩ := r1
      subst e
      exact .cons n t (ih r2)
theorem vals_intsM : ∀ {us : List Value} {ys : List Int}, IntsAre us ys → Vals (ys.map V.int) us
  | _, _, .nil => .nil
  | _, _, .cons n t h => .cons ⟨t, rfl⟩ (vals_intsM h)
end
end L2
namespace L2
open PySem
def Ens {a : Type} (x : Option (a × HpM)) (Q : a → HpM → Prop) : Prop := ∃ y h, x = some (y, h) ∧ Q y h
def Enp {a : Type} (x : Option a) (Q : a → Prop) : Prop := ∃ y, x = some y ∧ Q y
def EB (x : M) (R : Bool → Prop) : Prop := ∃ b, x = .bl b ∧ R b
def SQ (b : FS) (Q : Out → HpM → Prop) : Out → HpM → Prop
  | .nx ρ, h => Ens (b ρ h) Q
  | o, h => Q o h
def FQ (Q : M → HpM → Prop) : Out → HpM → Prop
  | .rt d, h => Q d h
  | .nx _, h => Q .non h
  | _, _ => False
section
variable {a b : Type} {Q : a → HpM → Prop} {R : M → HpM → Prop} {S : Out → HpM → Prop} {T : Bool → HpM → Prop} {U : List M → HpM → Prop} {ρ : EnvM} {h : HpM} {m ma mb mc : FE} {mas : FA} {ta tb : FT} {sa sb : FS} {d x y : M}
theorem Ens.mono {x : Option (a × HpM)} {Q Q' : a → HpM → Prop} (e : Ens x Q) (i : ∀ y h, Q y h → Q' y h) : Ens x Q' := by obtain ⟨y, h, e, q⟩ := e; exact ⟨y, h, e, i y h q⟩
theorem Ens.ret {y : a} (q : Q y h) : Ens (some (y, h)) Q := ⟨y, h, rfl, q⟩
theorem Ens.bnd {x : Option (a × HpM)} {f : a → HpM → Option (b × HpM)} {Q : b → HpM → Prop} (e : Ens x fun y h => Ens (f y h) Q) : Ens (L2.bnd x f) Q := by
  obtain ⟨y, h, rfl, e⟩ := e; exact e
theorem Enp.map {x : Option a} (e : Enp x fun y => Q y h) : Ens (x.map (·, h)) Q := by obtain ⟨y, rfl, q⟩ := e; exact ⟨y, h, rfl, q⟩
theorem e_c (q : R d h) : Ens (mC d ρ h) R := .ret q
theorem e_var {i : Nat} {v : M} (e : ρ[i]? = some (some v)) (q : R v h) : Ens (mVar i ρ h) R := ⟨v, h, by unfold mVar; rw [e], q⟩
theorem e_nil (q : U [] h) : Ens (mNil ρ h) U := .ret q
theorem e_cons (q : Ens (ma ρ h) fun x h1 => Ens (mas ρ h1) fun xs h2 => U (x :: xs) h2) : Ens (mCons ma mas ρ h) U := .bnd (q.mono fun x h1 q => .bnd (q.mono fun xs h2 q => .ret q))
theorem e_tup (q : Ens (mas ρ h) fun xs h1 => xs.length ≤ 16777216 ∧ R (.tup xs) h1) : Ens (mTup mas ρ h) R := .bnd (q.mono fun xs h1 q => by rw [if_pos q.1]; exact .ret q.2)
theorem e_lst (q : Ens (mas ρ h) fun xs h1 => xs.length ≤ 16777216 ∧ R (.lst xs) h1) : Ens (mLst mas ρ h) R := .bnd (q.mono fun xs h1 q => by rw [if_pos q.1]; exact .ret q.2)
theorem e_lstH (q : Ens (mas ρ h) fun xs h1 => xs.length ≤ 16777216 ∧ R (.ref h1.length) (h1 ++ [.lst xs])) : Ens (mLstH mas ρ h) R := .bnd (q.mono fun xs h1 q => by rw [if_pos q.1]; exact .ret q.2)
theorem e_op {f : M → M → HpM → Option M} (q : Ens (ma ρ h) fun x h1 => Ens (mb ρ h1) fun y h2 => Enp (f x y h2) fun d => R d h2) : Ens (mOp f ma mb ρ h) R := .bnd (q.mono fun x h1 q => .bnd (q.mono fun y h2 q => q.map))
theorem e_cb {f : List M → HpM → Option M} (q : Ens (mas ρ h) fun xs h1 => Enp (f xs h1) fun d => R d h1) : Ens (mCB f mas ρ h) R := .bnd (q.mono fun x h1 q => q.map)
theorem e_call {f : FF} (q : Ens (mas ρ h) fun xs h1 => Ens (f xs h1) R) : Ens (mCall f mas ρ h) R := .bnd q
theorem e_asB {f : Bool → Option (a × HpM)} (q : EB x fun c => Ens (f c) Q) : Ens (asB x f) Q := by obtain ⟨c, rfl, q⟩ := q; exact q
theorem e_eb {c : Bool} {R : Bool → Prop} (q : R c) : EB (.bl c) R := ⟨c, rfl, q⟩
theorem e_and (q : Ens (ma ρ h) fun x h1 => EB x fun c => if c = true then Ens (mb ρ h1) R else R (.bl false) h1) : Ens (mAnd ma mb ρ h) R := .bnd (q.mono fun x h1 q => e_asB (by
  obtain ⟨c, rfl, q⟩ := q
  refine ⟨c, rfl, ?_⟩
  cases c
  · exact .ret q
  · exact q))
theorem e_or (q : Ens (ma ρ h) fun x h1 => EB x fun c => if c = true then R (.bl true) h1 else Ens (mb ρ h1) R) : Ens (mOr ma mb ρ h) R := .bnd (q.mono fun x h1 q => e_asB (by
  obtain ⟨c, rfl, q⟩ := q
  refine ⟨c, rfl, ?_⟩
  cases c
  · exact q
  · exact .ret q))
theorem e_not (q : Ens (ma ρ h) fun x h1 => EB x fun c => R (.bl (!c)) h1) : Ens (mNot ma ρ h) R := .bnd (q.mono fun x h1 q => e_asB (by
  obtain ⟨c, rfl, q⟩ := q
  exact ⟨c, rfl, .ret q⟩))
theorem e_chain {f g : M → M → HpM → Option M} (q : Ens (ma ρ h) fun x h1 => Ens (mb ρ h1) fun y h2 => Enp (f x y h2) fun z => EB z fun k => if k = true then Ens (mc ρ h2) fun w h3 => Enp (g y w h3) fun d => R d h3 else R (.bl false) h2) : Ens (mChain f g ma mb mc ρ h) R :=
  .bnd (q.mono fun x h1 q => .bnd (q.mono fun y h2 q => by
    obtain ⟨z, e, k, rfl, q⟩ := q
    rw [e, Option.bind_some]
    refine e_asB ⟨k, rfl, ?_⟩
    cases k
    · exact .ret q
    · exact .bnd (q.mono fun w h3 q => q.map)))
theorem e_tV (q : Ens (ma ρ h) fun x h1 => EB x fun c => T c h1) : Ens (tV ma ρ h) T := .bnd (q.mono fun x h1 q => e_asB (by obtain ⟨c, rfl, q⟩ := q; exact ⟨c, rfl, .ret q⟩))
theorem e_tAnd (q : Ens (ta ρ h) fun c h1 => if c = true then Ens (tb ρ h1) T else T false h1) : Ens (tAndM ta tb ρ h) T := .bnd (q.mono fun c h1 q => by cases c; exact .ret q; exact q)
theorem e_tOr (q : Ens (ta ρ h) fun c h1 => if c = true then T true h1 else Ens (tb ρ h1) T) : Ens (tOrM ta tb ρ h) T := .bnd (q.mono fun c h1 q => by cases c; exact q; exact .ret q)
theorem e_tNot (q : Ens (ta ρ h) fun c h1 => T (!c) h1) : Ens (tNotM ta ρ h) T := .bnd (q.mono fun c h1 q => .ret q)
theorem e_tTrue (q : T true h) : Ens (tTrueM ρ h) T := .ret q
theorem e_oNo {O : Option Int → HpM → Prop} (q : O none h) : Ens (oNo ρ h) O := .ret q
theorem e_oSome {O : Option Int → HpM → Prop} (q : Ens (ma ρ h) fun x h1 => ∃ i, x = .int i ∧ O (some i) h1) : Ens (oSome ma ρ h) O := .bnd (q.mono fun x h1 q => by obtain ⟨i, rfl, q⟩ := q; exact .ret q)
theorem e_sl {f : M → Option Int → Option Int → HpM → Option M} {lo hi : FO} (q : Ens (ma ρ h) fun x h1 => Ens (lo ρ h1) fun l h2 => Ens (hi ρ h2) fun u h3 => Enp (f x l u h3) fun d => R d h3) : Ens (mSl f ma lo hi ρ h) R :=
  .bnd (q.mono fun x h1 q => .bnd (q.mono fun l h2 q => .bnd (q.mono fun u h3 q => q.map)))
theorem e_next (q : S (.nx ρ) h) : Ens (sNext ρ h) S := .ret q
theorem e_ret (q : Ens (ma ρ h) fun x h1 => S (.rt x) h1) : Ens (sRet ma ρ h) S := .bnd (q.mono fun x h1 q => .ret q)
theorem e_seq (q : Ens (sa ρ h) (SQ sb S)) : Ens (sSeq sa sb ρ h) S := .bnd (q.mono fun o h1 q => by
  cases o with
  | nx ρ' => exact q
  | bk ρ' => exact .ret q
  | ct ρ' => exact .ret q
  | rt d => exact .ret q)
theorem e_sqN (q : Ens (sb ρ h) S) : SQ sb S (.nx ρ) h := q
theorem e_sqR (q : S (.rt d) h) : SQ sb S (.rt d) h := q
theorem e_fqR (q : R d h) : FQ R (.rt d) h := q
theorem e_sif (q : Ens (ta ρ h) fun c h1 => if c = true then Ens (sa ρ h1) S else Ens (sb ρ h1) S) : Ens (sIf ta sa sb ρ h) S := .bnd (q.mono fun c h1 q => by cases c <;> exact q)
theorem e_asg {g : FG} (q : Ens (ma ρ h) fun x h1 => Ens (g x ρ h1) fun ρ' h2 => S (.nx ρ') h2) : Ens (sAsg ma g ρ h) S := .bnd (q.mono fun x h1 q => .bnd (q.mono fun ρ' h2 q => .ret q))
theorem e_nm {i : Nat} {G : EnvM → HpM → Prop} (q : G (ρ.set i (some x)) h) : Ens (gNm i x ρ h) G := .ret q
theorem e_gnil {G : EnvM → HpM → Prop} (q : G ρ h) : Ens (gsNil [] ρ h) G := .ret q
theorem e_gcons {g : FG} {gs : FGs} {xs : List M} {G : EnvM → HpM → Prop} (q : Ens (g x ρ h) fun ρ' h' => Ens (gs xs ρ' h') G) : Ens (gsCons g gs (x :: xs) ρ h) G := .bnd q
theorem e_gtp {n : Nat} {gs : FGs} {xs : List M} {G : EnvM → HpM → Prop} (e : xs.length = n) (q : Ens (gs xs ρ h) G) : Ens (gTp n gs (.tup xs) ρ h) G := by show Ens (if xs.length = n then _ else _) G; rw [if_pos e]; exact q
theorem e_par {i j : Nat} (q : Ens (mas ρ h) fun xs h1 => ∃ x y, xs = [x, y] ∧ S (.nx ((ρ.set i (some x)).set j (some y))) h1) : Ens (sPar i j mas ρ h) S := .bnd (q.mono fun xs h1 q => by obtain ⟨x, y, rfl, q⟩ := q; exact .ret q)
theorem e_gsub {o i : FE} {G : EnvM → HpM → Prop} (q : Ens (o ρ h) fun oo h1 => Ens (i ρ h1) fun ii h2 => ∃ k j xs q, oo = .ref k ∧ ii = .int j ∧ h2[k]? = some (.lst xs) ∧ ixN xs.length j = some q ∧ G ρ (h2.set k (.lst (xs.set q x)))) : Ens (gSubM o i x ρ h) G :=
  .bnd (q.mono fun oo h1 q => .bnd (q.mono fun ii h2 q => by
    obtain ⟨k, j, xs, q, rfl, rfl, e1, e2, q'⟩ := q
    exact ⟨ρ, _, by unfold onL; dsimp only; rw [e1]; dsimp only; rw [e2]; rfl, q'⟩))
theorem e_fun {n k : Nat} {ds : List M} (e : ds.length = n) (q : Ens (sa (ds.map some ++ List.replicate k none) h) (FQ R)) : Ens (mFun n k sa ds h) R := by
  unfold mFun
  rw [if_pos e]
  refine .bnd (q.mono fun o h1 q => ?_)
  cases o with
  | nx ρ' => exact .ret q
  | bk ρ' => exact q.elim
  | ct ρ' => exact q.elim
  | rt d => exact .ret q
def LQ (I : EnvM → HpM → Prop) (S : Out → HpM → Prop) : Out → HpM → Prop
  | .nx ρ, h => I ρ h
  | .ct ρ, h => I ρ h
  | .bk ρ, h => S (.nx ρ) h
  | .rt d, h => S (.rt d) h
theorem e_loop {xs : List M} {bd : M → FS} (I : Nat → EnvM → HpM → Prop) : ∀ {l : List M} {i : Nat} {ρ : EnvM} {h : HpM}, l = xs.drop i → i ≤ xs.length → I i ρ h →
    (∀ i x ρ h, xs[i]? = some x → I i ρ h → Ens (bd x ρ h) (LQ (I (i + 1)) S)) → (∀ ρ h, I xs.length ρ h → S (.nx ρ) h) → Ens (mLoop xs none bd l ρ h) S
  | [], i, ρ, h, e, hi, hI, _, hd => by
    have : i = xs.length := by
      have := congrArg List.length e
      simp at this; omega
    subst this
    unfold mLoop
    rw [if_pos (show okS xs none h from trivial)]
    exact .ret (hd ρ h hI)
  | x :: r, i, ρ, h, e, hi, hI, hs, hd => by
    have hx : xs[i]? = some x := by
      have := congrArg (fun l : List M => l[0]?) e
      simpa using this.symm
    have hr : r = xs.drop (i + 1) := by
      have := congrArg List.tail e
      simpa using this
    have hlt : i < xs.length := (List.getElem?_eq_some_iff.mp hx).1
    unfold mLoop
    rw [if_pos (show okS xs none h from trivial)]
    refine .bnd ((hs i x ρ h hx hI).mono fun o h1 q => ?_)
    cases o with
    | nx ρ' => exact e_loop I hr hlt q hs hd
    | ct ρ' => exact e_loop I hr hlt q hs hd
    | bk ρ' => exact .ret q
    | rt d => exact .ret q
theorem e_for {i : FI} {g : FG} (q : Ens (i ρ h) fun s h1 => Ens (mLoop s.1 s.2 (fun x ρ h => L2.bnd (g x ρ h) fun ρ' h' => sa ρ' h') s.1 ρ h1) S) : Ens (sFor i g sa ρ h) S := .bnd q
theorem e_body {g : FG} (q : Ens (g x ρ h) fun ρ' h' => Ens (sa ρ' h') S) : Ens (L2.bnd (g x ρ h) fun ρ' h' => sa ρ' h') S := .bnd q
theorem e_over {xs : List M} {bd : M → FS} (I : Nat → EnvM → HpM → Prop) (h0 : I 0 ρ h) (hs : ∀ i x ρ h, xs[i]? = some x → I i ρ h → Ens (bd x ρ h) (LQ (I (i + 1)) S)) (hd : ∀ ρ h, I xs.length ρ h → S (.nx ρ) h) : Ens (mLoop xs none bd xs ρ h) S :=
  e_loop I (i := 0) (by simp) (Nat.zero_le _) h0 hs hd
abbrev SI := (List M × Option Nat) → HpM → Prop
theorem e_iL {s : SI} (q : Ens (ma ρ h) fun x h1 => ∃ xs, x = .lst xs ∧ s (xs, none) h1) : Ens (iL ma ρ h) s := .bnd (q.mono fun x h1 q => by obtain ⟨xs, rfl, q⟩ := q; exact .ret q)
theorem e_iS {s : SI} (q : Ens (ma ρ h) fun x h1 => ∃ z : Str, x = .str z ∧ s (z.cps.toList.map fun c => M.str ⟨#[c]⟩, none) h1) : Ens (iS ma ρ h) s := .bnd (q.mono fun x h1 q => by obtain ⟨xs, rfl, q⟩ := q; exact .ret q)
theorem e_iR1 {s : SI} (q : Ens (mas ρ h) fun xs h1 => ∃ j : Int, xs = [.int j] ∧ (-4611686018427387904 ≤ j ∧ j < 4611686018427387904) ∧ s ((List.range j.toNat).map fun (i : Nat) => M.int (i : Int), none) h1) : Ens (iR1 mas ρ h) s := .bnd (q.mono fun x h1 q => by
  obtain ⟨j, rfl, hj, q⟩ := q
  show Ens (if _ then _ else _) s
  rw [if_pos hj]; exact .ret q)
theorem e_comps {xs : List M} {g : FG} {c : FT} {e : FE} {τ : EnvM} {V : List M → HpM → Prop} (J : Nat → List M → HpM → Prop) : ∀ {l : List M} {i : Nat} {acc : List M} {h : HpM}, l = xs.drop i → i ≤ xs.length → J i acc h →
    (∀ i x acc h, xs[i]? = some x → J i acc h → Ens (g x τ h) fun τ' h1 => Ens (c τ' h1) fun t h2 => if t = true then Ens (e τ' h2) fun y h3 => J (i + 1) (acc ++ [y]) h3 else J (i + 1) acc h2) →
    (∀ acc h, J xs.length acc h → V acc h) → Ens (mComps xs none g c e τ l h) fun ys h' => V (acc ++ ys) h'
  | [], i, acc, h, e, hi, hJ, _, hd => by
    have : i = xs.length := by
      have := congrArg List.length e
      simp at this; omega
    subst this
    unfold mComps
    rw [if_pos (show okS xs none h from trivial)]
    refine .ret ?_
    rw [List.append_nil]
    exact hd acc h hJ
  | x :: r, i, acc, h, e, hi, hJ, hs, hd => by
    have hx : xs[i]? = some x := by
      have := congrArg (fun l : List M => l[0]?) e
      simpa using this.symm
    have hr : r = xs.drop (i + 1) := by
      have := congrArg List.tail e
      simpa using this
    have hlt : i < xs.length := (List.getElem?_eq_some_iff.mp hx).1
    unfold mComps
    rw [if_pos (show okS xs none h from trivial)]
    refine .bnd ((hs i x acc h hx hJ).mono fun τ' h1 q => .bnd (q.mono fun t h2 q => ?_))
    cases t with
    | false => exact e_comps J hr hlt q hs hd
    | true =>
      refine .bnd (q.mono fun y h3 q => .bnd ((e_comps J hr hlt q hs hd).mono fun ys h4 q => .ret ?_))
      simpa using q
theorem e_comp {ix : List (Option Nat)} {i : FI} {g : FG} {c : FT} {e : FE} (q : Ens (i ρ h) fun s h1 => s.1.length ≤ 16777216 ∧ Ens (mComps s.1 s.2 g c e (tauM ix ρ) s.1 h1) fun ys h2 => R (.lst ys) h2) : Ens (mComp ix i g c e ρ h) R :=
  .bnd (q.mono fun s h1 q => by rw [if_pos q.1]; exact .bnd (q.2.mono fun ys h2 q => .ret q))
theorem e_over2 {xs : List M} {g : FG} {c : FT} {e : FE} {τ : EnvM} {V : List M → HpM → Prop} (J : Nat → List M → HpM → Prop) (h0 : J 0 [] h)
    (hs : ∀ i x acc h, xs[i]? = some x → J i acc h → Ens (g x τ h) fun τ' h1 => Ens (c τ' h1) fun t h2 => if t = true then Ens (e τ' h2) fun y h3 => J (i + 1) (acc ++ [y]) h3 else J (i + 1) acc h2)
    (hd : ∀ acc h, J xs.length acc h → V acc h) : Ens (mComps xs none g c e τ xs h) V := (e_comps (V := V) J (i := 0) (acc := []) (by simp) (Nat.zero_le _) h0 hs hd).mono fun ys h q => by simpa using q
end
section
variable {R : M → Prop} {h : HpM}
theorem p_addI {i j : Int} (q : R (.int (i + j))) : Enp (opAdd (.int i) (.int j) h) R := ⟨_, rfl, q⟩
theorem p_subI {i j : Int} (q : R (.int (i - j))) : Enp (opSub (.int i) (.int j) h) R := ⟨_, rfl, q⟩
theorem p_mulI {i j : Int} (e : (-18446744073709551616 < i ∧ i < 18446744073709551616) ∨ (-18446744073709551616 < j ∧ j < 18446744073709551616)) (q : R (.int (i * j))) : Enp (opMul (.int i) (.int j) h) R := ⟨_, if_pos e, q⟩
theorem p_mod {i j : Int} (e : 0 < j) (q : R (.int (i % j))) : Enp (opMod (.int i) (.int j) h) R := ⟨_, if_pos e, q⟩
theorem p_div {i j : Int} (e : 0 < j ∧ j < 1073741824) (q : R (.int (i / j))) : Enp (opDiv (.int i) (.int j) h) R := ⟨_, if_pos e, q⟩
theorem p_pow {i j : Int} (e : 0 ≤ j ∧ j ≤ 1000000 ∧ i.natAbs < 18446744073709551616) (q : R (.int (i ^ j.toNat))) : Enp (opPow (.int i) (.int j) h) R := ⟨_, if_pos e, q⟩
theorem p_ltI {i j : Int} (q : R (.bl (decide (i < j)))) : Enp (opLt (.int i) (.int j) h) R := ⟨_, rfl, q⟩
theorem p_leI {i j : Int} (q : R (.bl (decide (i ≤ j)))) : Enp (opLe (.int i) (.int j) h) R := ⟨_, rfl, q⟩
theorem p_gtI {i j : Int} (q : R (.bl (decide (j < i)))) : Enp (opGt (.int i) (.int j) h) R := ⟨_, rfl, q⟩
theorem p_geI {i j : Int} (q : R (.bl (decide (j ≤ i)))) : Enp (opGe (.int i) (.int j) h) R := ⟨_, rfl, q⟩
theorem p_eqI {i j : Int} (q : R (.bl (i == j))) : Enp (opEq (.int i) (.int j) h) R := ⟨_, rfl, q⟩
theorem p_neI {i j : Int} (q : R (.bl (!(i == j)))) : Enp (opNe (.int i) (.int j) h) R := ⟨_, rfl, q⟩
theorem p_eqS {i j : Str} (q : R (.bl (i == j))) : Enp (opEq (.str i) (.str j) h) R := ⟨_, rfl, q⟩
theorem p_eqB {i j : Bool} (q : R (.bl (i == j))) : Enp (opEq (.bl i) (.bl j) h) R := ⟨_, rfl, q⟩
theorem p_neB {i j : Bool} (q : R (.bl (!(i == j)))) : Enp (opNe (.bl i) (.bl j) h) R := ⟨_, rfl, q⟩
theorem p_isN {x : M} (q : R (.bl (isN x))) : Enp (opIs x .non h) R := ⟨_, rfl, q⟩
theorem p_abs {i : Int} (q : R (.int (if i < 0 then -i else i))) : Enp (bAbs [.int i] h) R := ⟨_, rfl, q⟩
theorem p_intB {i : Bool} (q : R (.int (if i then 1 else 0))) : Enp (bInt [.bl i] h) R := ⟨_, rfl, q⟩
theorem p_min {i j : Int} (q : R (.int (if j < i then j else i))) : Enp (bMin [.int i, .int j] h) R := ⟨_, rfl, q⟩
theorem p_lenL {xs : List M} (q : R (.int xs.length)) : Enp (bLen [.lst xs] h) R := ⟨_, rfl, q⟩
theorem p_lenT {xs : List M} (q : R (.int xs.length)) : Enp (bLen [.tup xs] h) R := ⟨_, rfl, q⟩
theorem p_lenC {xs : List Int} (q : R (.int xs.length)) : Enp (bLen [.scr xs] h) R := ⟨_, by show some (M.int (xs.map M.int).length) = _; rw [List.length_map], q⟩
theorem p_lenS {z : Str} (e : z.length ≤ 16777216) (q : R (.int z.length)) : Enp (bLen [.str z] h) R := ⟨_, if_pos e, q⟩
theorem p_ixL {xs : List M} {i : Int} {d : M} (e : atI xs i = some d) (q : R d) : Enp (ixM (.lst xs) (.int i) h) R := ⟨d, e, q⟩
theorem p_ixT {xs : List M} {i : Int} {d : M} (e : atI xs i = some d) (q : R d) : Enp (ixM (.tup xs) (.int i) h) R := ⟨d, e, q⟩
theorem p_ixR {xs : List M} {k : Nat} {i : Int} {d : M} (e0 : h[k]? = some (.lst xs)) (e : atI xs i = some d) (q : R d) : Enp (ixM (.ref k) (.int i) h) R := ⟨d, by
  unfold ixM
  rw [show dctOf h (.ref k) = none by show (match h[k]? with | some (.dct kvs) => some kvs | _ => none) = none; rw [e0]]
  show (seqR h (.ref k)).bind _ = _; rw [show seqR h (.ref k) = some xs by show (match h[k]? with | some (.lst xs) => some xs | _ => none) = some xs; rw [e0]]; exact e, q⟩
theorem p_addL {xs ys : List M} (e : xs.length + ys.length ≤ 16777216) (q : R (.lst (xs ++ ys))) : Enp (opAdd (.lst xs) (.lst ys) h) R := ⟨_, by show (if _ then _ else _) = _; rw [if_pos e], q⟩
theorem p_addT {xs ys : List M} (e : xs.length + ys.length ≤ 16777216) (q : R (.tup (xs ++ ys))) : Enp (opAdd (.tup xs) (.tup ys) h) R := ⟨_, by show (if _ then _ else _) = _; rw [if_pos e], q⟩
theorem p_slL {xs : List M} {lo hi : Option Int} (q : R (.lst (cutM xs lo hi))) : Enp (slM (.lst xs) lo hi h) R := ⟨_, rfl, q⟩
theorem p_slC {ns : List Int} {lo hi : Option Int} (q : R (.lst (cutM (ns.map M.int) lo hi))) : Enp (slM (.scr ns) lo hi h) R := ⟨_, rfl, q⟩
theorem p_slT {xs : List M} {lo hi : Option Int} (q : R (.tup (cutM xs lo hi))) : Enp (slM (.tup xs) lo hi h) R := ⟨_, rfl, q⟩
theorem p_inst {x : M} {c : String} (e : tyM h x ≠ "") (e2 : okTy c = true) (q : R (.bl (instB (tyM h x) c))) : Enp (bInst [x, .ty c] h) R := ⟨_, if_pos ⟨e, e2⟩, q⟩
end
theorem ite_b {A B : Prop} {c : Bool} (h1 : c = true → A) (h2 : c = false → B) : if c = true then A else B := by cases c; exact h2 rfl; exact h1 rfl
theorem ite_t {A B : Prop} (h : A) : if (true = true) then A else B := h
end L2
namespace L2
open PySem
section
variable {R : M → Prop} {h : HpM}
theorem pi_int_int {x : Int} (q : R (.bl true)) : Enp (bInst [(.int x), .ty "int"] h) R := p_inst (by show "int" ≠ ""; decide) (by decide) (by rw [show instB (tyM h (.int x)) "int" = true from (by show instB "int" "int" = _; decide)]; exact q)
theorem pi_int_bool {x : Int} (q : R (.bl false)) : Enp (bInst [(.int x), .ty "bool"] h) R := p_inst (by show "int" ≠ ""; decide) (by decide) (by rw [show instB (tyM h (.int x)) "bool" = false from (by show instB "int" "bool" = _; decide)]; exact q)
theorem pi_str_str {x : Str} (q : R (.bl true)) : Enp (bInst [(.str x), .ty "str"] h) R := p_inst (by show "str" ≠ ""; decide) (by decide) (by rw [show instB (tyM h (.str x)) "str" = true from (by show instB "str" "str" = _; decide)]; exact q)
theorem pi_tup_tuple {x : List M} (q : R (.bl true)) : Enp (bInst [(.tup x), .ty "tuple"] h) R := p_inst (by show "tuple" ≠ ""; decide) (by decide) (by rw [show instB (tyM h (.tup x)) "tuple" = true from (by show instB "tuple" "tuple" = _; decide)]; exact q)
theorem ite_nT {A B : Prop} (h : B) : if (!true) = true then A else B := h
theorem ite_nF {A B : Prop} (h : A) : if (!false) = true then A else B := h
theorem e_lqN {I : EnvM → HpM → Prop} {S : Out → HpM → Prop} {ρ : EnvM} (q : I ρ h) : LQ I S (.nx ρ) h := q
end
end L2
namespace L2
open PySem PySem.Spec PyProof.Rows
section
variable {X : Cx} {K : PySem.W.Frag} {a b e : Expr} {es : List Expr} {ma mb : FE} {mas : FA} {pos p : Pos}
theorem const_int {i : Int} {t : Tok} : ConstM K (.int i) (.int i t) := ⟨.int i, ⟨t, rfl⟩, fun _ _ => rfl⟩
end
end L2
namespace L2
open PySem PySem.Spec PyProof.Rows
structure Cal (P : Program) (w : World) (K : PySem.W.Frag) (mg : Str → Option Value) (base : Heap) (n : Nat) (x : Str) (m : FF) : Prop where
  ex : ∃ f fd ps, FnOk P w K mg base CX0 n f fd ps (spM K m) ∧ mg x = some (.ref f) ∧ PySem.W.keepIn K (.ref f) = true ∧ Binds K fd ps []
theorem Cal.of {P : Program} {w : World} {K : PySem.W.Frag} {mg : Str → Option Value} {base : Heap} {n : Nat} {x : Str} {m : FF} {f : Addr} {fd : FuncData} {ps : List Str} (F : FnOk P w K mg base CX0 n f fd ps (spM K m)) (h1 : mg x = some (.ref f)) (h2 : PySem.W.keepIn K (.ref f) = true) (h3 : Binds K fd ps []) : Cal P w K mg base n x m := ⟨f, fd, ps, F, h1, h2, h3⟩
section
variable {X : Cx} {e : Expr} {es : List Expr} {mas : FA} {pos p : Pos} {n : Nat} {x : Str} {m : FF}
theorem me_cal (C : Cal X.prog X.w X.K X.mg X.base n x m) (hr : Room n X.A) (q : NmOk X.env.scope x .globalImplicit) (ha : PA X (e :: es) (aM X.K mas)) (he : notStar e = true) (hpl : (backTo pos (starEach es X.env)).any (·.1) = false) : PE X (.Call (.Name x p) (e :: es) [] pos) (tM X.K (mCall m mas)) := by
  obtain ⟨f, fd, ps, F, h1, h2, h3⟩ := C.ex
  exact me_call F hr q h1 h2 h3 pass0 ha he hpl
end
end L2
namespace L2
open PySem
def Kp (p : Nat) (h h' : HpM) : Prop := h'.length = h.length ∧ ∀ q, q ≠ p → h'[q]? = h[q]?
theorem Kp.set {p : Nat} {h : HpM} {o : MO} : Kp p h (h.set p o) := ⟨by simp, fun q hq => List.getElem?_set_ne (Ne.symm hq)⟩
theorem set_at {p : Nat} {h : HpM} {o o' : MO} (e : h[p]? = some o) : (h.set p o')[p]? = some o' := List.getElem?_set_self (List.getElem?_eq_some_iff.mp e).1
theorem e_put {o i : FE} {x : M} {ρ : EnvM} {h : HpM} {G : EnvM → HpM → Prop} {k : Nat} {j : Int} {xs : List M} {n : Nat} (ho : o ρ h = some (.ref k, h)) (hi : i ρ h = some (.int j, h)) (e1 : h[k]? = some (.lst xs)) (e2 : ixN xs.length j = some n)
    (q : ∀ h', h'[k]? = some (.lst (xs.set n x)) → Kp k h h' → G ρ h') : Ens (gSubM o i x ρ h) G :=
  e_gsub ⟨_, _, ho, _, _, hi, k, j, xs, n, rfl, rfl, e1, e2, q _ (set_at e1) Kp.set⟩
theorem take_succ' {α : Type} {l : List α} {i : Nat} {x : α} (h : l[i]? = some x) : l.take (i + 1) = l.take i ++ [x] := by rw [List.take_add_one, h]; rfl
theorem cut_to {xs : List M} {k : Nat} (hk : k ≤ xs.length) : cutM xs none (some (k : Int)) = xs.take k := by
  unfold cutM; rw [HT.sIx_none, HT.sIx_nat, Nat.min_eq_left hk]; simp
theorem cut_from {xs : List M} {k : Nat} (hk : k ≤ xs.length) : cutM xs (some (k : Int)) none = xs.drop k := by
  unfold cutM; rw [HT.sIx_none, HT.sIx_nat, Nat.min_eq_left hk]
  rw [List.take_of_length_le (by rw [List.length_drop]; exact Nat.le_refl _)]
section
variable {R : M → Prop} {h : HpM} {k : Nat} {x : M}
theorem toDs_strs : ∀ (ss : List Str), toDs h (ss.map M.str) = some (ss.map D.str)
  | [] => rfl
  | s :: ss => by
    show (toDB (lookD h 20) (M.str s)).bind (fun d => (toDBs (lookD h 20) (ss.map M.str)).map (d :: ·)) = _
    rw [show toDBs (lookD h 20) (ss.map M.str) = some (ss.map D.str) from toDs_strs ss]; rfl
theorem deeps_strs : ∀ (ss : List Str), D.deeps (ss.map D.str) = 0
  | [] => rfl
  | s :: ss => by rw [List.map_cons, D.deeps, deeps_strs ss]; rfl
theorem p_all {bs : List Bool} (q : R (.bl (bs.all id))) : Enp (bAll [.lst (bs.map M.bl)] h) R := by
  refine ⟨_, ?_, q⟩
  show (bls (bs.map M.bl)).map _ = _
  have : ∀ bs : List Bool, bls (bs.map M.bl) = some bs := by
    intro bs
    induction bs with
    | nil => rfl
    | cons b bs ih => show (bls (bs.map M.bl)).map (b :: ·) = _; rw [ih]; rfl
  rw [this]; rfl
end
end L2
namespace L2
open PySem PySem.Spec PyProof.Rows
section
variable {X : Cx} {K : PySem.W.Frag} {mas : FA} {p pos : Pos}
def pairUp {α : Type} : List α → List (α × α)
  | k :: v :: r => (k, v) :: pairUp r
  | _ => []
def keyed : List M → Option (List (Key × M))
  | [] => some []
  | [_] => none
  | k :: v :: r => (keyM k).bind fun k' => (keyed r).map ((k', v) :: ·)
def putM (kvs : List (Key × M)) (k : Key) (v : M) : List (Key × M) := if (kvs.any fun kv => decide (kv.1 = k)) then kvs.map fun kv => if kv.1 = k then (kv.1, v) else kv else kvs ++ [(k, v)]
def mergeM (kvs more : List (Key × M)) : List (Key × M) := more.foldl (fun acc kv => putM acc kv.1 kv.2) kvs
def RepD (K : PySem.W.Frag) (α : Pl) (H : Hp) (kvs : List (Key × M)) (ws : List (Key × V)) : Prop := ws.map (·.1) = kvs.map (·.1) ∧ RepAs K α H (kvs.map (·.2)) (ws.map (·.2))
theorem RepD.inv {α : Pl} {H : Hp} {kv : Key × M} {kvs : List (Key × M)} {ws : List (Key × V)} (r : RepD K α H (kv :: kvs) ws) : ∃ w ws', ws = w :: ws' ∧ w.1 = kv.1 ∧ RepA K α H kv.2 w.2 ∧ RepD K α H kvs ws' := by
  obtain ⟨e, r⟩ := r
  cases ws with
  | nil => cases e
  | cons w ws =>
    obtain ⟨v, q, e1, h1, h2⟩ := r
    have e1' : w.2 :: ws.map (·.2) = v :: q := e1
    injection e1' with ev eq
    subst ev eq
    have e' : w.1 :: ws.map (·.1) = kv.1 :: kvs.map (·.1) := e
    injection e' with ek es
    exact ⟨w, ws, rfl, ek, h1, es, h2⟩
theorem RepD.nil {α : Pl} {H : Hp} : RepD K α H [] [] := ⟨rfl, rfl⟩
theorem RepD.nil_inv {α : Pl} {H : Hp} {ws : List (Key × V)} (r : RepD K α H [] ws) : ws = [] := by
  have := r.1
  cases ws with
  | nil => rfl
  | cons _ _ => cases this
theorem RepD.cons {α : Pl} {H : Hp} {kv : Key × M} {kvs : List (Key × M)} {w : Key × V} {ws : List (Key × V)} (e : w.1 = kv.1) (h : RepA K α H kv.2 w.2) (r : RepD K α H kvs ws) : RepD K α H (kv :: kvs) (w :: ws) :=
  ⟨by rw [List.map_cons, List.map_cons, e, r.1], ⟨_, _, rfl, h, r.2⟩⟩
theorem RepD.put {α : Pl} {H : Hp} {k : Key} {m : M} {v : V} (hm : RepA K α H m v) {kvs : List (Key × M)} {ws : List (Key × V)} (r : RepD K α H kvs ws) : RepD K α H (putM kvs k m) (putK ws k v) := by
  have ha : ∀ {kvs : List (Key × M)} {ws : List (Key × V)}, RepD K α H kvs ws → (kvs.any fun kv => decide (kv.1 = k)) = ws.any fun kv => decide (kv.1 = k) := by
    intro kvs
    induction kvs with
    | nil => intro ws r; cases r.nil_inv; rfl
    | cons kv kvs ih =>
      intro ws r
      obtain ⟨w, ws', rfl, e, _, r'⟩ := r.inv
      rw [List.any_cons, List.any_cons, ih r', e]
  unfold putM putK
  rw [ha r]
  split
  · rename_i hc
    clear hc
    induction kvs generalizing ws with
    | nil => cases r.nil_inv; exact .nil
    | cons kv kvs ih =>
      obtain ⟨w, ws', rfl, e, h1, r'⟩ := r.inv
      rw [List.map_cons, List.map_cons]
      refine RepD.cons ?_ ?_ (ih r')
      · by_cases hk : kv.1 = k
        · rw [if_pos hk, if_pos (e.trans hk)]; exact e
        · rw [if_neg hk, if_neg (fun z => hk (e.symm.trans z))]; exact e
      · by_cases hk : kv.1 = k
        · rw [if_pos hk, if_pos (e.trans hk)]; exact hm
        · rw [if_neg hk, if_neg (fun z => hk (e.symm.trans z))]; exact h1
  · refine ⟨?_, ?_⟩
    · rw [List.map_append, List.map_append, r.1]; rfl
    · rw [List.map_append, List.map_append]; exact r.2.snoc hm
theorem RepD.merge {α : Pl} {H : Hp} : ∀ {more : List (Key × M)} {mw : List (Key × V)} {kvs : List (Key × M)} {ws : List (Key × V)}, RepD K α H more mw → RepD K α H kvs ws → RepD K α H (mergeM kvs more) (mergeK ws mw)
  | [], mw, kvs, ws, h, r => by cases h.nil_inv; exact r
  | kv :: more, mw, kvs, ws, h, r => by
    obtain ⟨w, mw', rfl, e, h1, h'⟩ := h.inv
    show RepD K α H (mergeM (putM kvs kv.1 kv.2) more) (mergeK (putK ws w.1 w.2) mw')
    rw [e]
    exact RepD.merge h' (r.put h1)
def mDsp (a : FA) : FE := fun ρ h => bnd (a ρ h) fun xs h1 => (keyed xs).bind fun kvs => if kvs.length ≤ 15 then some (.dct ((mergeM [] kvs).map (·.1)) ((mergeM [] kvs).map (·.2)), h1) else none
abbrev TPr := St → Hp → (List (V × V) → Hp → Prop) → Prop
def PPm (X : Cx) (pos : Pos) (keys : List (Option Expr)) (values : List Expr) (t : TPr) : Prop :=
  ∀ (pins : List (Addr × Obj)) (s : Shared) (σ : St) (H : Hp) (Q : List (V × V) → Hp → Prop), Inv X pins σ H s → t σ H Q →
    wpAny (model X.prog X.w) X.A (evalPairs (pairTrees keys values X.env pos)) (fun vs s' => ∃ ps H', Inv X pins σ H' s' ∧ VV ps vs ∧ Q ps H') X.xe s
def pM (K : PySem.W.Frag) (m : FA) : TPr := fun σ H Q => ∃ α ρ h d h', REnv K α H ρ σ ∧ Rl K α h H ∧ m ρ h = some (d, h') ∧ ∀ α' H' vs, Ev α α' H H' → Rl K α' h' H' → RepAs K α' H' d vs → Q (pairUp vs) H'
theorem mp_nil : PPm X pos [] [] (pM X.K mNil) := fun pins s σ H Q I ⟨α, ρ, h, d, h', hσ, hr, e, k⟩ => by
  cases e
  exact pairTrees_nil_walk ⟨[], H, I, .nil, k α H [] .refl hr rfl⟩
theorem mp_cons {k v : Expr} {ks : List (Option Expr)} {vs : List Expr} {mk mv : FE} (hk : PE X k (tM X.K mk)) (hv : PE X v (tM X.K mv)) (hr : PPm X pos ks vs (pM X.K mas)) :
    PPm X pos (some k :: ks) (v :: vs) (pM X.K (mCons mk (mCons mv mas))) := fun pins s σ H Q I ⟨α, ρ, h, d, h', hσ, hR, e, kk⟩ => by
  obtain ⟨x, h1, e1, e⟩ := bnd_inv e
  obtain ⟨xs, h2, e2, e⟩ := bnd_inv e
  cases e
  obtain ⟨y, h3, e3, e2⟩ := bnd_inv e2
  obtain ⟨ys, h4, e4, e2⟩ := bnd_inv e2
  cases e2
  refine pairTrees_cons_walk (thn (hk pins s σ H (fun u H1 => tM X.K mv σ H1 fun u2 H2 => pM X.K mas σ H2 fun ps H3 => Q ((u, u2) :: ps) H3) I ⟨α, ρ, h, x, h1, hσ, hR, e1, fun α1 H1 u ev1 hr1 ru => ⟨α1, ρ, h1, y, h3, hσ.ev ev1, hr1, e3, fun α2 H2 u2 ev2 hr2 ru2 => ⟨α2, ρ, h3, ys, _, (hσ.ev ev1).ev ev2, hr2, e4, fun α3 H3 us ev3 hr3 rus => ?_⟩⟩⟩) fun w1 s1 ⟨u, H1, I1, rx, q1⟩ => thn (hv pins s1 σ H1 _ I1 q1) fun w2 s2 ⟨u2, H2, I2, ry, q2⟩ =>
    thn (hr pins s2 σ H2 _ I2 q2) fun ws s3 ⟨ps, H3, I3, rel, q3⟩ => ⟨(u, u2) :: ps, H3, I3, .cons ⟨rx, ry⟩ rel, q3⟩)
  exact kk α3 H3 (u :: u2 :: us) ((ev1.trans ev2).trans ev3) hr3 ⟨u, _, rfl, (ru.ev ev2).ev ev3, u2, _, rfl, ru2.ev ev3, rus⟩
def tDispM (t : TPr) : TE := fun σ H Q => ∀ p, H p = none → t σ (upd H p (.dK [])) fun ps H2 => H2 p = some (.dK []) ∧ ∃ kvs : List (Key × V), ps = kvs.map (fun kv => (kV kv.1, kv.2)) ∧ kvs.length ≤ 15 ∧ Q (.ref p) (upd H2 p (.dK (mergeK [] kvs)))
theorem pe_dispM {keys : List (Option Expr)} {values : List Expr} {t : TPr} (h : PPm X pos keys values t) (hall : keys.all (·.isSome) = true) (hl : keys.length = values.length) (h0 : keys ≠ [])
    (h15 : keys.length ≤ 15) : PE X (.Dict keys values pos) (tDispM t) := by
  intro pins s σ H Q I q
  have hn := I.hok.fresh (Nat.le_refl s.heap.objs.size)
  have I1 := I.laid (a := s.heap.objs.size) (o := .dK []) (h' := s.heap.push { cls := .type "dict", data := .dict #[] }) (t' := s.toks) (fun _ _ q => Heap.get?_push_of_some _ q) (Nat.le_refl _) (dk_empty s.heap I.big)
  refine wpAny_Dict_walk (knd := mixKind X.prog X.w) hall hl h0 h15 (thn (h pins _ σ _ _ I1 (q _ hn)) fun ws s2 ⟨ps, H2, I2, rel, e, kvs, ep, lk, q2⟩ => ?_)
  subst ep
  obtain ⟨rs, c, rk⟩ := carries_of (P := X.prog) (w := X.w) rel
  obtain ⟨z, hd, vs0, r0, dd⟩ := dk_of I2.hok e
  cases r0
  refine ⟨rs, c, dd, fun h' dd' hs => ⟨.ref s.heap.objs.size, _, ?_, rfl, q2⟩⟩
  have hz : (mergeK [] kvs).length ≤ sizeLine := by
    have h1 := length_mergeK kvs []
    rw [List.length_nil] at h1
    rw [sizeLine_eq]; omega
  have he : ∃ q, h'.get? s.heap.objs.size = some q := let ⟨q, _, _, hq, _⟩ := dd'; ⟨q, hq⟩
  exact d_write I2 (by rw [e]; exact True.intro) hs he (dk_new hz hd (rk.merge .nil) dd')
theorem keyed_rep {α : Pl} {H : Hp} : ∀ {xs : List M} {kvs : List (Key × M)} {vs : List V}, keyed xs = some kvs → RepAs K α H xs vs → ∃ ws : List (Key × V), pairUp vs = ws.map (fun kv => (kV kv.1, kv.2)) ∧ ws.length = kvs.length ∧ RepD K α H kvs ws
  | [], kvs, vs, e, r => by
    cases e
    cases (show vs = [] from r)
    exact ⟨[], rfl, rfl, .nil⟩
  | [_], _, _, e, _ => by cases e
  | k :: v :: xs, kvs, vs, e, r => by
    obtain ⟨k', e1, e⟩ := Option.bind_eq_some_iff.mp e
    obtain ⟨kvs', e2, rfl⟩ := Option.map_eq_some_iff.mp e
    obtain ⟨u, q, rfl, ru, u2, q2, rfl, ru2, rq⟩ := r
    obtain ⟨ws, h1, h2, h3⟩ := keyed_rep e2 rq
    refine ⟨(k', u2) :: ws, ?_, by simp [h2], .cons rfl ru2 h3⟩
    show (u, u2) :: pairUp q2 = _
    rw [h1, keyM_rep e1 ru]; rfl
theorem me_dsp {keys : List (Option Expr)} {values : List Expr} (h : PPm X pos keys values (pM X.K mas)) (hall : keys.all (·.isSome) = true) (hl : keys.length = values.length) (h0 : keys ≠ [])
    (h15 : keys.length ≤ 15) : PE X (.Dict keys values pos) (tM X.K (mDsp mas)) := (pe_dispM h hall hl h0 h15).imp fun σ H Q ⟨α, ρ, h, d, h', hσ, hr, e, k⟩ => by
  obtain ⟨xs, h1, e1, e⟩ := bnd_inv e
  obtain ⟨kvs, e2, e⟩ := Option.bind_eq_some_iff.mp e
  split at e
  · rename_i h15
    cases e
    intro p hp
    refine ⟨α.hide p, ρ, h, xs, _, (hσ.hide hp).ev (.same (same_new hp _)), hr.lay hp, e1, fun α2 H2 vs ev2 hr2 rvs => ?_⟩
    have hg : α2.g = p :: α.g := ev2.pre.1
    have ea : α2 = Pl.hide ⟨α2.a, α.g⟩ p := by cases α2; cases hg; rfl
    have hpm : p ∈ α2.g := by rw [hg]; exact List.mem_cons_self
    have hpn : p ∉ α2.a := fun hm => hr2.ap p hm hpm
    have hpa : p ∉ (α.hide p).a := hr.newA hp
    have hp2 : H2 p = some (.dK []) := ev2.keep _ _ upd_same (.inr List.mem_cons_self) hpa
    obtain ⟨ws, w1, w2, w3⟩ := keyed_rep e2 rvs
    refine ⟨hp2, ws, w1, by omega, ?_⟩
    have hr3 := hr2.hw (u := .dK (mergeK [] ws)) hpm
    have r3 : RepD X.K α2 (upd H2 p (.dK (mergeK [] ws))) (mergeM [] kvs) (mergeK [] ws) := by
      have := RepD.merge w3 (RepD.nil (K := X.K) (α := α2) (H := H2))
      exact ⟨this.1, this.2.hw hpm⟩
    rw [ea] at hr3 r3
    refine k ⟨α2.a, α.g⟩ _ _ ?_ hr3.show ⟨p, _, rfl, ⟨hpn, (hr.new hp).2⟩, .inl upd_same, r3.1, r3.2.show⟩
    have ev3 : Ev (α.hide p) α2 (upd H p (.dK [])) H2 := ev2
    rw [ea] at ev3
    have ev4 : Ev α ⟨α2.a, α.g⟩ (upd H p (.dK [])) H2 := ev3.unhide
    refine ⟨⟨rfl, ?_⟩, fun b o hb q n => ?_, fun b ws hb n => ?_, fun b hb => ?_⟩
    · obtain ⟨_, β, e1, e2⟩ := ev4.pre
      refine ⟨β, e1, fun b hb => ?_⟩
      have := e2 b hb
      by_cases z : b = p
      · subst z; exact hp
      · rw [upd_ne z] at this; exact this
    · have z : b ≠ p := by intro z; subst z; rw [hp] at hb; cases hb
      rw [upd_ne z]; exact ev4.keep b o (by rw [upd_ne z]; exact hb) q n
    · have z : b ≠ p := by intro z; subst z; rw [hp] at hb; cases hb
      rcases ev4.keepD b ws (by rw [upd_ne z]; exact hb) n with r | ⟨o, r⟩
      · exact .inl (by rw [upd_ne z]; exact r)
      · exact .inr ⟨o, by rw [upd_ne z]; exact r⟩
    · by_cases z : b = p
      · subst z; rw [upd_same] at hb; cases hb
      · rw [upd_ne z] at hb
        have := ev4.dom b hb
        rw [upd_ne z] at this; exact this
  · cases e
end
section
variable {R : M → HpM → Prop} {ρ : EnvM} {h : HpM} {mas : FA}
theorem e_dsp (q : Ens (mas ρ h) fun xs h1 => ∃ kvs, keyed xs = some kvs ∧ kvs.length ≤ 15 ∧ R (.dct ((mergeM [] kvs).map (·.1)) ((mergeM [] kvs).map (·.2))) h1) : Ens (mDsp mas ρ h) R := .bnd (q.mono fun xs h1 q => by
  obtain ⟨kvs, e1, e2, q⟩ := q
  exact ⟨_, h1, by rw [e1, Option.bind_some, if_pos e2], q⟩)
end
end L2
namespace L2
open PySem PySem.Spec PyProof.Rows
section
variable {X : Cx} {a b c d : Expr} {es : List Expr} {ma mb mc md : FE} {mas : FA}
theorem ma_1 (ha : PE X a (tM X.K ma)) (h1 : notStar a = true) : PA X [a] (aM X.K (mCons ma mNil)) := ma_cons ha ma_nil h1
theorem ma_2 (ha : PE X a (tM X.K ma)) (hb : PE X b (tM X.K mb)) (h1 : notStar a = true) (h2 : notStar b = true) : PA X [a, b] (aM X.K (mCons ma (mCons mb mNil))) := ma_cons ha (ma_1 hb h2) h1
theorem ma_3 (ha : PE X a (tM X.K ma)) (hb : PE X b (tM X.K mb)) (hc : PE X c (tM X.K mc)) (h1 : notStar a = true) (h2 : notStar b = true) (h3 : notStar c = true) : PA X [a, b, c] (aM X.K (mCons ma (mCons mb (mCons mc mNil)))) := ma_cons ha (ma_2 hb hc h2 h3) h1
theorem ma_c4 (ha : PE X a (tM X.K ma)) (hb : PE X b (tM X.K mb)) (hc : PE X c (tM X.K mc)) (hd : PE X d (tM X.K md)) (hr : PA X es (aM X.K mas)) (h1 : notStar a = true) (h2 : notStar b = true) (h3 : notStar c = true) (h4 : notStar d = true) : PA X (a :: b :: c :: d :: es) (aM X.K (mCons ma (mCons mb (mCons mc (mCons md mas))))) := ma_cons ha (ma_cons hb (ma_cons hc (ma_cons hd hr h4) h3) h2) h1
theorem ma_4 (ha : PE X a (tM X.K ma)) (hb : PE X b (tM X.K mb)) (hc : PE X c (tM X.K mc)) (hd : PE X d (tM X.K md)) (h1 : notStar a = true) (h2 : notStar b = true) (h3 : notStar c = true) (h4 : notStar d = true) : PA X [a, b, c, d] (aM X.K (mCons ma (mCons mb (mCons mc (mCons md mNil))))) := ma_c4 ha hb hc hd ma_nil h1 h2 h3 h4
end
end L2
set_option maxHeartbeats 1000000
set_option maxHeartbeats 1000000
namespace L2
open PySem PySem.Spec PyProof.Rows
theorem RepAs.reverse {K : PySem.W.Frag} {α : Pl} {H : Hp} : ∀ {xs : List M} {vs : List V}, RepAs K α H xs vs → RepAs K α H xs.reverse vs.reverse
  | [], _, h => by cases (show _ = [] from h); exact rfl
  | x :: xs, _, ⟨v, r, e1, h1, h2⟩ => by
    subst e1
    rw [List.reverse_cons, List.reverse_cons]
    exact (RepAs.reverse h2).snoc h1
end L2
namespace L2
open PySem PySem.Spec PyProof.Rows
section
variable {ma : FE} {mas : FA} {ρ : EnvM} {h : HpM} {S : Out → HpM → Prop} {R : M → Prop}
theorem intsM_map : ∀ ns : List Int, intsM (ns.map M.int) = some ns
  | [] => rfl
  | n :: ns => by show (intsM (ns.map M.int)).map (n :: ·) = _; rw [intsM_map ns]; rfl
end
end L2
set_option maxHeartbeats 1000000
set_option maxHeartbeats 1000000
set_option maxHeartbeats 1000000
set_option maxHeartbeats 1000000
namespace ZT
open PySem PySem.W PyProof.Rows
section
variable {prog : Program} {w : World} {A : Around} {E : Value → Shared → Prop} {s : Shared}
theorem collect_src {T : String} {r d : Addr} {n : Nat} {P : Nat → Value → Prop} {OK : Heap → Prop} {R : List Value → Shared → Prop} (K : KdlSrc prog w T r d n P OK) (hh : A.handled = none) (hok : OK s.heap) (hn : n ≤ sizeLine)
    (h : ∀ (h' : Heap) (tk : Nat) (acc : Array Value), (∀ b o, s.heap.get? b = some o → h'.get? b = some o) → ItemsOf P acc n → R acc.toList { s with heap := h', toks := tk }) :
    wpAny (model prog w) A (collect (.ref r)) R E s := by
  have hlt := K.there _ hok
  unfold collect
  refine wpAny_bind (wpAny_runValue (codeAny_builtin entry_proto_collect' ?_))
  rw [Around.under_plainId PySem.F.plain_proto_collect _]
  show wpAny _ A.in1 (newList [] >>= fun l => again (.builtin "list.__iadd__" ⟨[l, .ref r], []⟩)) _ _ s
  refine wpAny_bind (wpAny_newObj_type ?_)
  refine wpAny_pure ⟨plainId_quiet PySem.F.plain_list_iadd _, codeAny_builtin entry_list_iadd' ?_⟩
  rw [Around.under_plainId PySem.F.plain_list_iadd _]
  have hS₁ : (s.heap.push { cls := .type "list", data := .seq ([] : List Value).toArray }).get? s.heap.objs.size = some { cls := .type "list", data := .seq #[] } := Heap.get?_push_size _ rfl
  show wpAny _ A.in1 (Builtin.List.listExtendWith (.ref s.heap.objs.size) (.ref r) (.ref s.heap.objs.size)) _ _ _
  have key := kdl_extend (A := A) (s := { s with heap := s.heap.push { cls := .type "list", data := .seq ([] : List Value).toArray } }) K
    (R := fun (q : Result) (s' : Shared) => ∃ (h' : Heap) (tk : Nat) (acc' : Array Value) (c' : Nat), q = .ok (.ret (.ref s.heap.objs.size)) ∧ s' = { s with heap := h', toks := tk } ∧
      (∀ b o, s.heap.get? b = some o → h'.get? b = some o) ∧ h'.get? s.heap.objs.size = some { cls := .type "list", dict := none, data := .seq acc' c', slots := #[] } ∧ ItemsOf P acc' n)
    hh (K.keep _ _ hok fun b _ o e => Heap.get?_push_of_some _ e) s.heap.objs.size (Nat.ne_of_gt hlt.1) (Nat.ne_of_gt hlt.2) (.ref s.heap.objs.size) 0 hS₁
    (fun h' tk acc' c' hk hS' hacc => ⟨h', tk, acc', c', rfl, rfl, fun b o e => hk b o (Nat.ne_of_lt (Heap.lt_size e)) (Heap.get?_push_of_some _ e), hS', hacc⟩) hn
  refine wpAny_mono key (fun fin s' x => ?_) fun e s' x => ?_
  · cases fin with
    | done f =>
      obtain ⟨h', tk, acc', c', e, rfl, hk, hS', hacc⟩ := x
      cases e
      show wpAny _ A (load s.heap.objs.size >>= _) _ _ _
      refine wpAny_bind (wpAny_load hS' ?_)
      exact wpAny_pure (h h' tk acc' hk hacc)
    | again c₁ =>
      refine ⟨x.1, codeAny_mono x.2 fun q s₂ y => ?_⟩
      obtain ⟨h', tk, acc', c', rfl, rfl, hk, hS', hacc⟩ := y
      show wpAny _ A (load s.heap.objs.size >>= _) _ _ _
      refine wpAny_bind (wpAny_load hS' ?_)
      exact wpAny_pure (h h' tk acc' hk hacc)
  · obtain ⟨_, _, _, _, e', _⟩ := x
    cases e'
open L2 in
end
end ZT
namespace L2
open PySem PySem.Spec PyProof.Rows
theorem ObjOk.is {P : Program} {w : World} {H : Hp} {h : Heap} {a : Addr} {o : HO} (x : ObjOk P w H h a o) : ∃ ob, h.get? a = some ob := by
  cases o with
  | lst xs => obtain ⟨_, _, _, _, e⟩ := x; exact ⟨_, e⟩
  | tup xs => obtain ⟨_, _, _, ob, e, _⟩ := x; exact ⟨_, e⟩
  | dK kvs => obtain ⟨_, _, _, _, o, _, _, e, _⟩ := x; exact ⟨_, e⟩
  | dT kvs => obtain ⟨_, _, _, _, o, _, _, e, _⟩ := x; exact ⟨_, e⟩
  | set S n => obtain ⟨o, _, _, _, e, _⟩ := x; exact ⟨_, e⟩
  | ins C dx fs => obtain ⟨_, _, _, e, _⟩ := x; exact ⟨_, e⟩
  | own y => exact x
  | xd fs => obtain ⟨_, ⟨_, _, _, e, _⟩, _⟩ := x; exact ⟨_, e⟩
  | rng lo hi => obtain ⟨_, _, _, e⟩ := x; exact ⟨_, e⟩
  | frz ob u => obtain ⟨e, _⟩ := x; exact ⟨_, e⟩
  | tbl ps => exact ⟨_, (show h.get? a = some _ from x)⟩
  | met f y => exact ⟨_, (show h.get? a = some _ from x)⟩
  | ext φ => obtain ⟨_, e, _⟩ := x; exact e
section
variable {X : Cx} {pins : List (Addr × Obj)} {σ : St} {H H' : Hp} {s : Shared} {h' : Heap}
theorem Inv.none_at (I : Inv X pins σ H s) {b : Addr} (e : s.heap.get? b = none) : H b = none := by
  cases q : H b with
  | none => rfl
  | some u =>
    obtain ⟨ob, h1⟩ := (I.hok b u q).is
    rw [e] at h1; cases h1
theorem Inv.laids {t' : Nat} (I : Inv X pins σ H s) (k : ∀ b o, s.heap.get? b = some o → h'.get? b = some o) (sm : Same H H') (nw : ∀ b u, H' b = some u → H b = some u ∨ (s.heap.get? b = none ∧ ObjOk X.prog X.w H' h' b u)) :
    Inv X pins σ H' { s with heap := h', toks := t' } := by
  refine I.call (g' := s.gens) (d' := s.drawn) (ch := []) ⟨fun b o e _ _ _ => k b o e, fun b o e _ _ _ => ⟨o.slots, k b o e⟩, fun b o e n _ => ?_, fun b o e _ => ⟨o, k b o e⟩, fun b ys q => sm _ _ q, fun b u ys q => sm _ _ q, fun b ps q => ⟨#[], by rw [sm _ _ q]; simp⟩⟩ (fun b u e => ?_) I.bare fun b hb => by cases hb
  · cases q : H' b with
    | none => rfl
    | some u =>
      rcases nw b u q with z | ⟨z, _⟩
      · rw [n] at z; cases z
      · rw [e] at z; cases z
  · rcases nw b u e with z | z
    · exact (I.hok b u z).stay (fun c v _ q => k c v q) (fun c q => sm _ _ q) fun c ys q => sm _ _ q
    · exact z.2
end
end L2
namespace L2
open PySem
theorem e_oInt {i : Int} {ρ : EnvM} {h : HpM} {O : Option Int → HpM → Prop} (q : O (some i) h) : Ens (oSome (mC (.int i)) ρ h) O := ⟨_, _, rfl, q⟩
theorem len_ok {xs : List M} {P : Prop} (h : xs.length ≤ 16777216) (q : P) : xs.length ≤ 16777216 ∧ P := ⟨h, q⟩
theorem p_tn {R : M → Prop} {h : HpM} {xs : List M} {j : Nat} {x : M} (e : xs[j]? = some x) (q : R x) : Enp (ixM (.tup xs) (.int (j : Int)) h) R := ⟨x, by show atI xs (j : Int) = _; rw [atI_nat e], q⟩
theorem p_t0 {R : M → Prop} {h : HpM} {a : M} {ps : List M} (q : R a) : Enp (ixM (.tup (a :: ps)) (.int 0) h) R := p_tn (j := 0) rfl q
theorem p_t1 {R : M → Prop} {h : HpM} {a b : M} {ps : List M} (q : R b) : Enp (ixM (.tup (a :: b :: ps)) (.int 1) h) R := p_tn (j := 1) rfl q
theorem p_t2 {R : M → Prop} {h : HpM} {a b c : M} {ps : List M} (q : R c) : Enp (ixM (.tup (a :: b :: c :: ps)) (.int 2) h) R := p_tn (j := 2) rfl q
theorem p_t3 {R : M → Prop} {h : HpM} {a b c d : M} {ps : List M} (q : R d) : Enp (ixM (.tup (a :: b :: c :: d :: ps)) (.int 3) h) R := p_tn (j := 3) rfl q
theorem p_any {R : M → Prop} {h : HpM} {xs : List M} {r : Int} (h0 : 0 ≤ r) (h1 : r < xs.length) (q : ∀ x ∈ xs, R x) : Enp (ixM (.lst xs) (.int r) h) R := by
  obtain ⟨j, rfl⟩ := Int.eq_ofNat_of_zero_le h0
  have hj : j < xs.length := by omega
  refine ⟨xs[j], ?_, q _ (List.getElem_mem hj)⟩
  show atI xs (j : Int) = _
  rw [atI_nat (List.getElem?_eq_getElem hj)]
theorem p_anyT {R : M → Prop} {h : HpM} {xs : List M} {r : Int} (h0 : 0 ≤ r) (h1 : r < xs.length) (q : ∀ x ∈ xs, R x) : Enp (ixM (.tup xs) (.int r) h) R := by
  obtain ⟨j, rfl⟩ := Int.eq_ofNat_of_zero_le h0
  have hj : j < xs.length := by omega
  refine ⟨xs[j], ?_, q _ (List.getElem_mem hj)⟩
  show atI xs (j : Int) = _
  rw [atI_nat (List.getElem?_eq_getElem hj)]
theorem at1 {g : HpM} {o : MO} {k : Nat} (e : k = g.length) : (g ++ [o])[k]? = some o := by subst e; simp
theorem e_filt {xs : List M} {g : FG} {c : FT} {e : FE} {τ : EnvM} {h : HpM} {V : List M → HpM → Prop} (p : M → Bool) (f : M → M)
    (hs : ∀ x ∈ xs, Ens (g x τ h) fun τ' h1 => h1 = h ∧ Ens (c τ' h1) fun t h2 => h2 = h ∧ t = p x ∧ (t = true → Ens (e τ' h2) fun y h3 => h3 = h ∧ y = f x)) (q : V ((xs.filter p).map f) h) : Ens (mComps xs none g c e τ xs h) V := by
  refine e_over2 (fun i acc h' => h' = h ∧ acc = ((xs.take i).filter p).map f) ⟨rfl, by simp⟩ ?_ ?_
  · rintro i x acc h' hx ⟨rfl, rfl⟩
    have ht : xs.take (i + 1) = xs.take i ++ [x] := take_succ' hx
    refine (hs x (List.mem_of_getElem? hx)).mono ?_
    rintro τ' h1 ⟨rfl, z⟩
    refine z.mono ?_
    rintro t h2 ⟨rfl, rfl, z⟩
    refine ite_b (fun hp => ?_) (fun hp => ?_)
    · refine (z hp).mono ?_
      rintro y h3 ⟨rfl, rfl⟩
      exact ⟨rfl, by rw [ht, List.filter_append, List.map_append]; simp [hp]⟩
    · exact ⟨rfl, by rw [ht, List.filter_append]; simp [hp]⟩
  · rintro acc h' ⟨rfl, rfl⟩
    rw [List.take_length]; exact q
theorem p_ixD {x y v : M} {h : HpM} {kvs : List (Key × M)} {key : Key} {R : M → Prop} (e1 : keyM y = some key) (e2 : dctOf h x = some kvs) (e3 : valM kvs key = some v) (q : R v) : Enp (ixM x y h) R := ⟨v, by
  unfold ixM
  rw [e2]
  show (keyM y).bind _ = _
  rw [e1]; exact e3, q⟩
end L2
namespace L2
open PySem PySem.Spec PyProof.Rows
section
variable {R : M → Prop} {Q : M → HpM → Prop} {h : HpM}
theorem p_leS {i j : Str} (q : R (.bl (!decide (j.cps.toList < i.cps.toList)))) : Enp (opLe (.str i) (.str j) h) R := ⟨_, rfl, q⟩
end
end L2
namespace ST
open PySem
theorem sub_len {α : Type} [DecidableEq α] : ∀ {l m : List α}, l.Nodup → (∀ x ∈ l, x ∈ m) → l.length ≤ m.length
  | [], _, _, _ => Nat.zero_le _
  | x :: l, m, hn, hs => by
    have hx := hs x (by simp)
    have h := sub_len (l := l) (m := m.erase x) (List.nodup_cons.1 hn).2 fun y hy => by
      have hne : y ≠ x := fun e => (List.nodup_cons.1 hn).1 (e ▸ hy)
      exact (List.mem_erase_of_ne hne).2 (hs y (by simp [hy]))
    rw [List.length_erase_of_mem hx] at h
    have : 0 < m.length := List.length_pos_of_mem hx
    simp only [List.length_cons]; omega

def Ris (xs : Array Nat) : Prop := xs.toList.Pairwise (· < ·)
theorem Ris.lt {xs : Array Nat} (hr : Ris xs) {a b u v : Nat} (ha : xs[a]? = some u) (hb : xs[b]? = some v) (h : a < b) : u < v := by
  rw [← Array.getElem?_toList] at ha hb
  obtain ⟨ha', ea⟩ := List.getElem?_eq_some_iff.1 ha
  obtain ⟨hb', eb⟩ := List.getElem?_eq_some_iff.1 hb
  rw [← ea, ← eb]
  exact List.pairwise_iff_getElem.1 hr a b ha' hb' h

theorem getD_of {xs : Array Nat} {k v d : Nat} (h : xs[k]? = some v) : xs.getD k d = v := by
  rw [Array.getD_eq_getD_getElem?, h]; rfl
theorem some_of {xs : Array Nat} {k : Nat} (h : k < xs.size) : ∃ v, xs[k]? = some v := ⟨xs[k], by simp [h]⟩

theorem below_go (xs : Array Nat) (j : Nat) (hr : Ris xs) : ∀ fuel lo hi, hi - lo ≤ fuel → lo ≤ hi → hi ≤ xs.size →
    (∀ k v, k < lo → xs[k]? = some v → v < j) → (∀ k v, hi ≤ k → xs[k]? = some v → j ≤ v) →
    (∀ k v, k < SetTable.below.go xs j fuel lo hi → xs[k]? = some v → v < j) ∧ (∀ k v, SetTable.below.go xs j fuel lo hi ≤ k → xs[k]? = some v → j ≤ v) ∧ SetTable.below.go xs j fuel lo hi ≤ xs.size := by
  intro fuel
  induction fuel with
  | zero =>
    intro lo hi h1 h2 h3 h4 h5
    have e : lo = hi := by omega
    subst e
    exact ⟨h4, h5, h3⟩
  | succ fuel ih =>
    intro lo hi h1 h2 h3 h4 h5
    unfold SetTable.below.go
    by_cases hl : lo < hi
    · rw [if_pos hl]
      dsimp only
      obtain ⟨u, hu⟩ := some_of (xs := xs) (k := (lo + hi) / 2) (by omega)
      rw [getD_of hu]
      by_cases hc : u < j
      · rw [if_pos hc]
        refine ih _ _ (by omega) (by omega) h3 (fun k v hk hv => ?_) h5
        rcases Nat.lt_or_ge k ((lo + hi) / 2) with h | h
        · exact Nat.lt_trans (hr.lt hv hu h) hc
        · have e : k = (lo + hi) / 2 := by omega
          rw [e, hu] at hv; injection hv with hv; omega
      · rw [if_neg hc]
        refine ih _ _ (by omega) (by omega) (by omega) h4 (fun k v hk hv => ?_)
        rcases Nat.lt_or_ge ((lo + hi) / 2) k with h | h
        · have := hr.lt hu hv h; omega
        · have e : k = (lo + hi) / 2 := by omega
          rw [e, hu] at hv; injection hv with hv; omega
    · rw [if_neg hl]
      have e : lo = hi := by omega
      subst e
      exact ⟨h4, h5, h3⟩
theorem below_spec {xs : Array Nat} (j : Nat) (hr : Ris xs) :
    (∀ k v, k < SetTable.below xs j → xs[k]? = some v → v < j) ∧ (∀ k v, SetTable.below xs j ≤ k → xs[k]? = some v → j ≤ v) ∧ SetTable.below xs j ≤ xs.size :=
  below_go xs j hr xs.size 0 xs.size (by omega) (Nat.zero_le _) (Nat.le_refl _) (fun _ _ h => absurd h (Nat.not_lt_zero _))
    fun k v h hv => by rw [Array.getElem?_eq_none (by omega)] at hv; cases hv

theorem has_none (j : Nat) : SetTable.has #[] j = false := by
  simp [SetTable.has]
theorem slot_none {t : SetTable} (hd : t.dummies = #[]) {j : Nat} (h : j ∉ t.place.toList) : t.slot j = .empty := by
  unfold SetTable.slot
  dsimp only
  rw [hd, has_none]
  have : (t.place[SetTable.below t.place j]? == some j) = false := by
    rw [beq_eq_false_iff_ne]
    intro e
    exact h (by rw [← Array.getElem?_toList] at e; exact List.mem_of_getElem? e)
  rw [this]; rfl
theorem slot_empty {t : SetTable} (hr : Ris t.place) {j : Nat} (h : t.slot j = .empty) : j ∉ t.place.toList := by
  intro hm
  obtain ⟨k, hk⟩ := List.mem_iff_getElem?.1 hm
  rw [Array.getElem?_toList] at hk
  obtain ⟨h1, h2, h3⟩ := below_spec (xs := t.place) j hr
  have e : SetTable.below t.place j = k := by
    rcases Nat.lt_trichotomy (SetTable.below t.place j) k with g | g | g
    · obtain ⟨v, hv⟩ := some_of (xs := t.place) (k := SetTable.below t.place j) (Nat.lt_of_lt_of_le g (by
        have : k < t.place.size := by
          rcases Nat.lt_or_ge k t.place.size with q | q
          · exact q
          · rw [Array.getElem?_eq_none q] at hk; cases hk
        omega))
      have a := h2 _ _ (Nat.le_refl _) hv
      have b := hr.lt hv hk g
      omega
    · exact g
    · have a := h1 _ _ g hk
      omega
  unfold SetTable.slot at h
  dsimp only at h
  rw [e, hk] at h
  simp at h
theorem insert_ris {xs : Array Nat} {j : Nat} (hr : Ris xs) (hj : j ∉ xs.toList) : Ris (SetTable.insertAt xs (SetTable.below xs j) j) := by
  unfold Ris
  rw [SetTable.toList_insertAt]
  obtain ⟨h1, h2, h3⟩ := below_spec (xs := xs) j hr
  generalize SetTable.below xs j = p at h1 h2 h3 ⊢
  rw [List.pairwise_append, List.pairwise_cons]
  have lo : ∀ a ∈ xs.toList.take p, a < j := fun a ha => by
    obtain ⟨k, hk⟩ := List.mem_iff_getElem?.1 ha
    rw [List.getElem?_take] at hk
    split at hk
    · rename_i hkp; exact h1 k a hkp (by rw [← Array.getElem?_toList]; exact hk)
    · cases hk
  have hi : ∀ a ∈ xs.toList.drop p, j < a := fun a ha => by
    obtain ⟨k, hk⟩ := List.mem_iff_getElem?.1 ha
    rw [List.getElem?_drop] at hk
    have q := h2 (p + k) a (by omega) (by rw [← Array.getElem?_toList]; exact hk)
    have : a ≠ j := fun e => hj (e ▸ List.mem_of_mem_drop ha)
    omega
  refine ⟨List.Pairwise.take hr, ⟨hi, List.Pairwise.drop hr⟩, fun a ha b hb => ?_⟩
  rcases List.mem_cons.1 hb with e | e
  · rw [e]; exact lo a ha
  · exact Nat.lt_trans (lo a ha) (hi b e)

def it (m : Nat) : Nat → Nat → Nat
  | 0, i => i
  | n + 1, i => it m n ((i * 5 + 1) % (m + 1))
theorem it_add (m a b : Nat) : ∀ i, it m (a + b) i = it m b (it m a i) := by
  induction a with
  | zero => intro i; rw [Nat.zero_add]; rfl
  | succ a ih => intro i; rw [Nat.succ_add]; exact ih _
def tr (m : Nat) : Nat → Nat → List Nat
  | 0, _ => []
  | n + 1, i => i :: tr m n ((i * 5 + 1) % (m + 1))
theorem mem_tr (m : Nat) : ∀ n i j, j ∈ tr m n i → ∃ a, a < n ∧ it m a i = j
  | 0, _, _, h => by cases h
  | n + 1, i, j, h => by
    rcases List.mem_cons.1 h with e | e
    · exact ⟨0, by omega, e.symm⟩
    · obtain ⟨a, ha, ea⟩ := mem_tr m n _ j e
      exact ⟨a + 1, by omega, ea⟩
def masks : List Nat := [7, 15, 31, 63, 127, 255]
theorem round_all : masks.all (fun m => (it m (m + 1) 0 == 0) && (List.range (m + 1)).all fun j => (tr m (m + 1) 0).contains j) = true := by decide +kernel
theorem round {m : Nat} (hm : m ∈ masks) {i j : Nat} (hi : i ≤ m) (hj : j ≤ m) : ∃ k, k ≤ m ∧ it m k i = j := by
  have h := List.all_eq_true.1 round_all m hm
  rw [Bool.and_eq_true, beq_iff_eq, List.all_eq_true] at h
  have get : ∀ x, x ≤ m → ∃ a, a < m + 1 ∧ it m a 0 = x := fun x hx => by
    have := h.2 x (List.mem_range.2 (by omega))
    exact mem_tr m _ _ _ (by simpa using this)
  obtain ⟨a, ha, ea⟩ := get i hi
  obtain ⟨b, hb, eb⟩ := get j hj
  rcases Nat.lt_or_ge b a with g | g
  · refine ⟨m + 1 - a + b, by omega, ?_⟩
    rw [← ea, ← it_add, show a + (m + 1 - a + b) = (m + 1) + b by omega, it_add, h.1, eb]
  · refine ⟨b - a, by omega, ?_⟩
    rw [← ea, ← it_add, show a + (b - a) = b by omega, eb]
def orb (m : Nat) : Nat → Nat → Nat → Nat
  | 0, i, _ => i
  | n + 1, i, p => orb m n (SetTable.leap m i p).1 (SetTable.leap m i p).2
theorem orb_it (m : Nat) : ∀ n i p, p / 32 = 0 → orb m n i p = it m n i
  | 0, _, _, _ => rfl
  | n + 1, i, p, h => by
    show orb m n ((i * 5 + 1 + p / 32) % (m + 1)) (p / 32) = it m n ((i * 5 + 1) % (m + 1))
    rw [h]; exact orb_it m n _ 0 rfl
theorem covers {m : Nat} (hm : m ∈ masks) (i p : Nat) (hp : p < 1024) {j : Nat} (hj : j ≤ m) : ∃ k, k < SetTable.turns m ∧ orb m k i p = j := by
  obtain ⟨k, hk, e⟩ := round hm (i := (i * 5 + 1 + p / 32) % (m + 1)) (Nat.lt_succ_iff.1 (Nat.mod_lt _ (Nat.succ_pos _))) hj
  refine ⟨k + 1, by unfold SetTable.turns; omega, ?_⟩
  show orb m k ((i * 5 + 1 + p / 32) % (m + 1)) (p / 32) = j
  rw [orb_it m k _ _ (by omega), e]

def Fr (t : SetTable) (o : Option SetTable.Met) : Prop := ∃ j, o = some (.empty j none) ∧ t.slot j = .empty
section
variable (t : SetTable) (h : Int)
theorem beq_next : (h + 1 == h) = false := by rw [beq_eq_false_iff_ne]; omega
theorem go_succ (hd : t.dummies = #[]) (f : Nat) (p : SetTable.Probe) (hp : p.dummy = none) :
    (t.slot p.j = .empty ∧ SetTable.probe.go t (fun _ => h + 1) h (f + 1) p = some (.empty p.j none)) ∨
    SetTable.probe.go t (fun _ => h + 1) h (f + 1) p = SetTable.probe.go t (fun _ => h + 1) h f (t.advance p) := by
  cases hs : t.slot p.j with
  | empty => refine .inl ⟨rfl, ?_⟩; unfold SetTable.probe.go; rw [hs, hp]
  | dummy =>
    exfalso
    unfold SetTable.slot at hs
    dsimp only at hs
    rw [hd, has_none] at hs
    split at hs <;> simp at hs
  | live i => refine .inr ?_; conv => lhs; unfold SetTable.probe.go
              rw [hs]; simp only [beq_next, Bool.false_eq_true, if_false]
theorem adv_dummy (p : SetTable.Probe) (hp : p.dummy = none) : (t.advance p).dummy = none := by
  unfold SetTable.advance; split <;> exact hp
theorem go_run (hd : t.dummies = #[]) : ∀ (n f : Nat) (p : SetTable.Probe), p.more = n → p.dummy = none →
    Fr t (SetTable.probe.go t (fun _ => h + 1) h f { j := (SetTable.leap t.mask p.i p.perturb).1, more := SetTable.runEnd t.mask (SetTable.leap t.mask p.i p.perturb).1 - (SetTable.leap t.mask p.i p.perturb).1, i := (SetTable.leap t.mask p.i p.perturb).1, perturb := (SetTable.leap t.mask p.i p.perturb).2, dummy := none }) →
    Fr t (SetTable.probe.go t (fun _ => h + 1) h (f + (n + 1)) p)
  | 0, f, p, hn, hp, hF => by
    rcases go_succ t h hd f p hp with ⟨a, b⟩ | b
    · exact ⟨_, b, a⟩
    · rw [show f + (0 + 1) = f + 1 by omega, b]
      have : t.advance p = { j := (SetTable.leap t.mask p.i p.perturb).1, more := SetTable.runEnd t.mask (SetTable.leap t.mask p.i p.perturb).1 - (SetTable.leap t.mask p.i p.perturb).1, i := (SetTable.leap t.mask p.i p.perturb).1, perturb := (SetTable.leap t.mask p.i p.perturb).2, dummy := none } := by
        unfold SetTable.advance
        rw [if_neg (by omega), ← hp]
      rw [this]; exact hF
  | n + 1, f, p, hn, hp, hF => by
    rcases go_succ t h hd (f + (n + 1)) p hp with ⟨a, b⟩ | b
    · exact ⟨_, b, a⟩
    · rw [show f + (n + 1 + 1) = f + (n + 1) + 1 by omega, b]
      have e : t.advance p = { p with j := p.j + 1, more := p.more - 1 } := by
        unfold SetTable.advance; rw [if_pos (by omega)]
      rw [e]
      exact go_run hd n f _ (by show p.more - 1 = n; omega) hp hF
theorem go_more (hd : t.dummies = #[]) : ∀ (f g : Nat) (p : SetTable.Probe), p.dummy = none → Fr t (SetTable.probe.go t (fun _ => h + 1) h f p) → Fr t (SetTable.probe.go t (fun _ => h + 1) h (f + g) p)
  | 0, g, p, _, hF => by obtain ⟨j, e, _⟩ := hF; cases e
  | f + 1, g, p, hp, hF => by
    rw [show f + 1 + g = f + g + 1 by omega]
    rcases go_succ t h hd (f + g) p hp with ⟨a, b⟩ | b
    · exact ⟨_, b, a⟩
    · rw [b]
      rcases go_succ t h hd f p hp with ⟨a, b'⟩ | b'
      · have : SetTable.probe.go t (fun _ => h + 1) h (f + g + 1) p = some (.empty p.j none) := by
          unfold SetTable.probe.go; rw [a, hp]
        rw [← b, this]; exact ⟨_, rfl, a⟩
      · exact go_more hd f g _ (adv_dummy t p hp) (b' ▸ hF)
theorem run_le (i : Nat) : SetTable.runEnd t.mask i - i ≤ 9 := by unfold SetTable.runEnd; split <;> omega
theorem go_rounds (hd : t.dummies = #[]) : ∀ (r i p : Nat), (∃ k, k < r ∧ t.slot (orb t.mask k i p) = .empty) →
    Fr t (SetTable.probe.go t (fun _ => h + 1) h (10 * r) { j := i, more := SetTable.runEnd t.mask i - i, i, perturb := p, dummy := none })
  | 0, _, _, h => by obtain ⟨k, hk, _⟩ := h; omega
  | r + 1, i, p, hh => by
    obtain ⟨k, hk, e⟩ := hh
    cases k with
    | zero =>
      rcases go_succ t h hd (10 * r + 9) { j := i, more := SetTable.runEnd t.mask i - i, i, perturb := p, dummy := none } rfl with ⟨a, b⟩ | b
      · exact ⟨_, b, a⟩
      · refine ⟨i, ?_, e⟩
        rw [show 10 * (r + 1) = 10 * r + 9 + 1 by omega]
        unfold SetTable.probe.go
        have e' : t.slot i = .empty := e
        simp only [e']
    | succ k =>
      have q := go_rounds hd r (SetTable.leap t.mask i p).1 (SetTable.leap t.mask i p).2 ⟨k, by omega, e⟩
      have q' := go_run t h hd _ (10 * r) { j := i, more := SetTable.runEnd t.mask i - i, i, perturb := p, dummy := none } rfl rfl q
      have l := run_le t i
      have := go_more t h hd _ (9 - (SetTable.runEnd t.mask i - i)) _ rfl q'
      rw [show 10 * r + (SetTable.runEnd t.mask i - i + 1) + (9 - (SetTable.runEnd t.mask i - i)) = 10 * (r + 1) by omega] at this
      exact this
end
theorem room {t : SetTable} (hd : t.dummies = #[]) (hn : t.place.size ≤ t.mask) : ∃ j, j ≤ t.mask ∧ t.slot j = .empty := by
  rcases Classical.em (∃ j, j ≤ t.mask ∧ j ∉ t.place.toList) with ⟨j, h1, h2⟩ | h
  · exact ⟨j, h1, slot_none hd h2⟩
  · exfalso
    have := sub_len (l := List.range (t.mask + 1)) (m := t.place.toList) List.nodup_range fun x hx => by
      rcases Classical.em (x ∈ t.place.toList) with g | g
      · exact g
      · exact absurd ⟨x, by have := List.mem_range.1 hx; omega, g⟩ h
    simp at this; omega
theorem bits_of {h : Int} (h0 : 0 ≤ h) (h1 : h < 50) : SetTable.bits h < 50 := by
  unfold SetTable.bits; omega
theorem freeSlot_of {t : SetTable} {h : Int} (hd : t.dummies = #[]) (hm : t.mask ∈ masks) (hn : t.place.size ≤ t.mask) (h0 : 0 ≤ h) (h1 : h < 50) :
    ∃ j, t.freeSlot h = some (j, false) ∧ t.slot j = .empty := by
  obtain ⟨j, hj, e⟩ := room hd hn
  obtain ⟨k, hk, ek⟩ := covers hm (SetTable.bits h % (t.mask + 1)) (SetTable.bits h) (by have := bits_of h0 h1; omega) hj
  obtain ⟨j', e1, e2⟩ := go_rounds t h hd (SetTable.turns t.mask) (SetTable.bits h % (t.mask + 1)) (SetTable.bits h) ⟨k, hk, by rw [ek]; exact e⟩
  refine ⟨j', ?_, e2⟩
  unfold SetTable.freeSlot SetTable.probe SetTable.probeStart
  dsimp only
  rw [e1]; rfl
end ST
namespace ST
open PySem
theorem getD_none {o : Array (Option Nat)} {k : Nat} (h : (o.getD k (some 0)).isNone = true) : o[k]? = some none := by
  rw [Array.getD_eq_getD_getElem?] at h
  cases e : o[k]? with
  | none => rw [e] at h; cases h
  | some v => rw [e] at h; cases v with
    | none => rfl
    | some u => cases h
theorem none_getD {o : Array (Option Nat)} {k : Nat} (h : o[k]? = some none) : (o.getD k (some 0)).isNone = true := by
  rw [Array.getD_eq_getD_getElem?, h]; rfl
theorem run_ge (m i : Nat) : i ≤ SetTable.runEnd m i := by unfold SetTable.runEnd; split <;> omega
theorem free_ok (m : Nat) (o : Array (Option Nat)) : ∀ f i p, (∃ k, k < f ∧ o[orb m k i p]? = some none) → ∃ j, SetTable.layClean.free m o f i p = some j ∧ o[j]? = some none
  | 0, _, _, h => by obtain ⟨k, hk, _⟩ := h; omega
  | f + 1, i, p, h => by
    unfold SetTable.layClean.free
    cases hf : (List.range (SetTable.runEnd m i + 1 - i)).find? fun k => (o.getD (i + k) (some 0)).isNone with
    | some k => exact ⟨i + k, rfl, getD_none (List.find?_some (p := fun k => (o.getD (i + k) (some 0)).isNone) hf)⟩
    | none =>
      have hn := List.find?_eq_none.1 hf 0 (List.mem_range.2 (by have := run_ge m i; omega))
      obtain ⟨k, hk, e⟩ := h
      cases k with
      | zero => exact absurd (none_getD (o := o) (k := i + 0) e) hn
      | succ k => exact free_ok m o f _ _ ⟨k, by omega, e⟩
theorem fm_set : ∀ (l : List (Option Nat)) (j k : Nat), l[j]? = some none → ((l.set j (some k)).filterMap id).Perm (k :: l.filterMap id)
  | [], _, _, h => by cases h
  | none :: l, 0, k, h => List.Perm.refl _
  | some v :: l, 0, k, h => by cases h
  | none :: l, j + 1, k, h => fm_set l j k h
  | some v :: l, j + 1, k, h => ((fm_set l j k h).cons v).trans (List.Perm.swap k v _)
theorem fm_all : ∀ (l : List (Option Nat)), (∀ x ∈ l, x ≠ none) → (l.filterMap id).length = l.length
  | [], _ => rfl
  | none :: l, h => absurd rfl (h none (by simp))
  | some v :: l, h => by
    have := fm_all l fun x hx => h x (by simp [hx])
    simp [List.filterMap_cons, this]
theorem free_spot {o : Array (Option Nat)} {m k : Nat} (hs : o.size = m + 1) (hp : (o.toList.filterMap id).Perm (List.range k)) (hk : k ≤ m) : ∃ j, j ≤ m ∧ o[j]? = some none := by
  rcases Classical.em (∃ j : Nat, o[j]? = some none) with ⟨j, hj⟩ | h
  · refine ⟨j, ?_, hj⟩
    rcases Nat.lt_or_ge j o.size with g | g
    · omega
    · rw [Array.getElem?_eq_none g] at hj; cases hj
  · exfalso
    have := fm_all o.toList fun x hx e => by
      obtain ⟨j, hj⟩ := List.mem_iff_getElem?.1 (e ▸ hx)
      exact h ⟨j, by rw [← Array.getElem?_toList]; exact hj⟩
    rw [hp.length_eq] at this
    simp at this; omega
def step (m : Nat) (acc : Option (Array (Option Nat) × Nat)) (h : Int) : Option (Array (Option Nat) × Nat) := do
  let (o, k) ← acc
  let j ← SetTable.layClean.free m o (SetTable.turns m) (SetTable.bits h % (m + 1)) (SetTable.bits h)
  pure (o.setIfInBounds j (some k), k + 1)
theorem fold_ok {m : Nat} (hm : m ∈ masks) : ∀ (hs : List Int) (o : Array (Option Nat)) (k : Nat), o.size = m + 1 → (o.toList.filterMap id).Perm (List.range k) → k + hs.length ≤ m + 1 → (∀ h ∈ hs, 0 ≤ h ∧ h < 50) →
    ∃ o', hs.foldl (step m) (some (o, k)) = some (o', k + hs.length) ∧ o'.size = m + 1 ∧ (o'.toList.filterMap id).Perm (List.range (k + hs.length))
  | [], o, k, h1, h2, _, _ => ⟨o, rfl, h1, h2⟩
  | h :: hs, o, k, h1, h2, h3, h4 => by
    simp only [List.length_cons] at h3
    obtain ⟨j, hj, ej⟩ := free_spot h1 h2 (by omega)
    obtain ⟨b0, b1⟩ := h4 h (by simp)
    obtain ⟨n, hn, en⟩ := covers hm (SetTable.bits h % (m + 1)) (SetTable.bits h) (by have := bits_of b0 b1; omega) hj
    obtain ⟨i, ei, fi⟩ := free_ok m o (SetTable.turns m) (SetTable.bits h % (m + 1)) (SetTable.bits h) ⟨n, hn, by rw [en]; exact ej⟩
    have hp : ((o.setIfInBounds i (some k)).toList.filterMap id).Perm (List.range (k + 1)) := by
      rw [Array.toList_setIfInBounds, List.range_succ]
      exact (fm_set _ _ _ (by rw [Array.getElem?_toList]; exact fi)).trans ((h2.cons k).trans (List.perm_append_singleton k _).symm)
    obtain ⟨o', a, b, c⟩ := fold_ok hm hs (o.setIfInBounds i (some k)) (k + 1) (by simp [h1]) hp (by omega) fun x hx => h4 x (by simp [hx])
    refine ⟨o', ?_, b, ?_⟩
    · rw [List.foldl_cons]
      have : step m (some (o, k)) h = some (o.setIfInBounds i (some k), k + 1) := by
        unfold step; simp only [Option.bind_eq_bind, Option.bind_some, ei]; rfl
      rw [this, a]; simp only [List.length_cons]; congr 2; omega
    · rw [show k + (h :: hs).length = k + 1 + hs.length by simp only [List.length_cons]; omega]; exact c
theorem clean_ok {m : Nat} (hm : m ∈ masks) {hs : Array Int} (hl : hs.size ≤ m + 1) (hb : ∀ h ∈ hs.toList, 0 ≤ h ∧ h < 50) :
    ∃ o, SetTable.layClean m hs = some o ∧ o.size = m + 1 ∧ (o.toList.filterMap id).Perm (List.range hs.size) := by
  obtain ⟨o, a, b, c⟩ := fold_ok hm hs.toList (Array.replicate (m + 1) none) 0 (by simp) (by
    rw [Array.toList_replicate]
    have : ∀ n, (List.replicate n (none : Option Nat)).filterMap id = [] := fun n => by induction n with
      | zero => rfl
      | succ n ih => rw [List.replicate_succ, List.filterMap_cons_none rfl, ih]
    rw [this]; exact List.Perm.refl _) (by simpa using hl) hb
  refine ⟨o, ?_, b, by simpa using c⟩
  have e : SetTable.layClean m hs = (hs.toList.foldl (step m) (some (Array.replicate (m + 1) none, 0))).map (·.1) := by
    unfold SetTable.layClean
    rw [← Array.foldl_toList]
    rfl
  rw [e, a]; rfl

structure Good (L : Bool) (t : SetTable) (n : Nat) : Prop where
  led : t.led = L
  plain : t.plain = true
  dum : t.dummies = #[]
  size : t.place.size = n
  ris : Ris t.place
  mask : t.mask ∈ masks
  few : n * 5 < t.mask * 3
theorem Good.fits {L : Bool} {t : SetTable} {n : Nat} (g : Good L t n) : t.fits n = true := by
  have h1 := g.few; have h2 := g.size; have h3 := g.dum
  simp only [SetTable.fits, SetTable.fill, h2, h3, Bool.and_eq_true, beq_iff_eq, decide_eq_true_eq, true_and]
  simp; omega
theorem good_fresh (L : Bool) : Good L (.fresh 0 0 L) 0 := ⟨rfl, rfl, rfl, rfl, List.Pairwise.nil, (by decide : (7 : Nat) ∈ masks), (by decide : 0 * 5 < 7 * 3)⟩
theorem fm_map (o : Array (Option Nat)) (m : Nat) (hs : o.size = m + 1) :
    ((List.range (m + 1)).filterMap fun j => (o.getD j none).map (j, ·)).map (·.2) = o.toList.filterMap id := by
  rw [List.map_filterMap]
  have : (fun x => Option.map (fun x : Nat × Nat => x.snd) (Option.map (fun x_1 => (x, x_1)) (o.getD x none))) = fun x => id (o.getD x none) := by
    funext x; cases o.getD x none <;> rfl
  rw [this, ← hs]
  conv => rhs; rw [← List.map_id o.toList]
  have e : o.toList = (List.range o.size).map fun j => o.getD j none := by
    apply List.ext_getElem?
    intro j
    rw [List.getElem?_map, Array.getElem?_toList]
    rcases Nat.lt_or_ge j o.size with g | g
    · rw [List.getElem?_range g]; simp [g, Array.getD_eq_getD_getElem?]
    · rw [List.getElem?_eq_none (by simpa using g), Array.getElem?_eq_none g]; rfl
  conv => rhs; rw [List.map_id, e]
  rw [List.filterMap_map]; rfl
theorem laid_ok {L : Bool} {m f mv : Nat} (hm : m ∈ masks) {hs : Array Int} (hl : hs.size * 5 < m * 3) (hb : ∀ h ∈ hs.toList, 0 ≤ h ∧ h < 50) :
    ∃ t o, SetTable.laid m f mv L true hs = some (t, o) ∧ Good L t hs.size ∧ o.toList.Perm (List.range hs.size) ∧ t.mask = m := by
  obtain ⟨o, a, b, c⟩ := clean_ok hm (hs := hs) (by omega) hb
  refine ⟨_, _, by unfold SetTable.laid; rw [a]; rfl, ⟨rfl, rfl, rfl, ?_, ?_, hm, hl⟩, ?_, rfl⟩
  · have := c.length_eq
    rw [← fm_map o m b] at this
    simpa using this
  · unfold Ris
    simp only [List.toList_toArray]
    have : (List.range (m + 1)).Pairwise (· < ·) := List.pairwise_lt_range
    rw [List.map_filterMap]
    refine List.Pairwise.filterMap _ (fun a a' hlt b hb b' hb' => ?_) this
    cases h1 : o.getD a none <;> rw [h1] at hb <;> simp at hb
    cases h2 : o.getD a' none <;> rw [h2] at hb' <;> simp at hb'
    omega
  · simp only [List.toList_toArray]
    rw [fm_map o m b]; exact c
theorem perm_of_order {o : Array Nat} {es : Array (Int × Value)} (h : o.toList.Perm (List.range es.size)) : (o.filterMap (es[·]?)).toList.Perm es.toList := by
  rw [Array.toList_filterMap]
  exact (h.filterMap _).trans (by rw [PySem.filterMap_getElem?_range])
theorem size_above {n : Nat} (h : n < 256) : SetTable.sizeAbove n - 1 ∈ masks ∧ n ≤ SetTable.sizeAbove n - 1 ∧ SetTable.sizeAbove n ≤ 256 := by
  have : ∀ n, n < 256 → (SetTable.sizeAbove n - 1 ∈ masks ∧ n ≤ SetTable.sizeAbove n - 1 ∧ SetTable.sizeAbove n ≤ 256) := by decide +kernel
  exact this n h
def Sm (es : Array (Int × Value)) : Prop := ∀ e ∈ es.toList, (0 ≤ e.1 ∧ e.1 < 50) ∧ ∃ tk, e.2 = .int e.1 tk
theorem Sm.hs {es : Array (Int × Value)} (h : Sm es) : ∀ x ∈ (es.map (·.1)).toList, 0 ≤ x ∧ x < 50 := by
  intro x hx
  rw [Array.toList_map] at hx
  obtain ⟨e, he, rfl⟩ := List.mem_map.1 hx
  exact (h e he).1
theorem Sm.perm {es es' : Array (Int × Value)} (h : Sm es) (p : es'.toList.Perm es.toList) : Sm es' := fun e he => h e (p.mem_iff.1 he)
theorem laid_es {L : Bool} {m f mv : Nat} (hm : m ∈ masks) {es : Array (Int × Value)} (hl : es.size * 5 < m * 3) (hb : Sm es) :
    ∃ t o, SetTable.laid m f mv L true (es.map (·.1)) = some (t, o) ∧ Good L t es.size ∧ (o.filterMap (es[·]?)).toList.Perm es.toList ∧ o.toList.Perm (List.range es.size) ∧ t.mask = m := by
  obtain ⟨t, o, a, b, c, d⟩ := laid_ok (L := L) (f := f) (mv := mv) hm (hs := es.map (·.1)) (by simpa using hl) hb.hs
  rw [Array.size_map] at b c
  exact ⟨t, o, a, b, perm_of_order c, c, d⟩
theorem relay_ok {L : Bool} {t : SetTable} {es : Array (Int × Value)} {n wanted : Nat} (hl : t.led = L) (hp : t.plain = true) (hb : Sm es) (hw : es.size * 2 ≤ wanted) (hw' : wanted < 256) :
    ∃ t' o, t.relaid (es.map (·.1)) wanted = some (t', o) ∧ Good L t' es.size ∧ (o.filterMap (es[·]?)).toList.Perm es.toList ∧ o.toList.Perm (List.range es.size) ∧ t'.mask = SetTable.sizeAbove wanted - 1 := by
  obtain ⟨h1, h2, _⟩ := size_above hw'
  have h3 : 7 ≤ SetTable.sizeAbove wanted - 1 := by
    have : ∀ m ∈ masks, 7 ≤ m := by decide
    exact this _ h1
  have := laid_es (L := L) (f := t.finger) (mv := t.movedTo (SetTable.sizeAbove wanted - 1)) h1 (es := es) (by omega) hb
  unfold SetTable.relaid
  rw [hl, hp]; exact this
theorem relayAll_ok {L : Bool} {t : SetTable} {es : Array (Int × Value)} {wanted : Nat} (hl : t.led = L) (hp : t.plain = true) (hb : Sm es) (hw : es.size * 2 ≤ wanted) (hw' : wanted < 256) :
    ∃ t' es', relayAll t es wanted = (es', t', false) ∧ Good L t' es.size ∧ es'.toList.Perm es.toList ∧ t'.mask = SetTable.sizeAbove wanted - 1 := by
  obtain ⟨t', o, a, b, c, d, e⟩ := relay_ok (n := 0) hl hp hb hw hw'
  refine ⟨t', _, ?_, b, c, e⟩
  unfold relayAll
  rw [a]
  have hs : (o.filterMap (es[·]?)).size = es.size := by rw [← Array.length_toList, c.length_eq, Array.length_toList]
  have h1 : coversAll o es.size = true := List.isPerm_iff.2 d
  dsimp only
  rw [h1, hs, b.fits]; rfl
theorem layNew_ok {L : Bool} {t : SetTable} {es : Array (Int × Value)} {h : Int} {x : Value} (g : Good L t es.size) (h0 : 0 ≤ h) (h1 : h < 50) :
    ∃ es' t', layNew t es h x = (es', t', false, false) ∧ es'.toList.Perm (es.push (h, x)).toList ∧ t'.led = L ∧ t'.plain = true ∧ t'.dummies = #[] ∧ t'.place.size = es.size + 1 ∧ Ris t'.place ∧ t'.mask = t.mask ∧ t'.fits (es.size + 1) = true := by
  have h2 := g.few; have h3 := g.size
  obtain ⟨j, e1, e2⟩ := freeSlot_of g.dum g.mask (by omega) h0 h1
  have hp : (SetTable.insertAt es (SetTable.below t.place j) (h, x)).toList.Perm (es.push (h, x)).toList := SetTable.insertAt_perm ..
  have hs : (SetTable.insertAt es (SetTable.below t.place j) (h, x)).size = es.size + 1 := by rw [← Array.length_toList, hp.length_eq]; simp
  have hs' : (SetTable.insertAt t.place (SetTable.below t.place j) j).size = es.size + 1 := by
    rw [← Array.length_toList, (SetTable.insertAt_perm ..).length_eq]; simp [h3]
  have hput : t.put j = ({ t with place := SetTable.insertAt t.place (SetTable.below t.place j) j, dummies := #[] }, SetTable.below t.place j) := by
    unfold SetTable.put
    dsimp only
    rw [g.dum, has_none]; rfl
  have hf : SetTable.fits { t with place := SetTable.insertAt t.place (SetTable.below t.place j) j, dummies := #[] } (es.size + 1) = true := by
    simp only [SetTable.fits, SetTable.fill, hs', Bool.and_eq_true, beq_iff_eq, decide_eq_true_eq, true_and]
    simp; omega
  refine ⟨_, { t with place := SetTable.insertAt t.place (SetTable.below t.place j) j, dummies := #[] }, ?_, hp, g.led, g.plain, rfl, hs', insert_ris g.ris (slot_empty g.ris e2), rfl, hf⟩
  unfold layNew
  rw [e1]
  dsimp only
  rw [hput]
  dsimp only
  rw [hs]
  unfold SetTable.orStandIn
  rw [if_pos hf, hf]; rfl
end ST
set_option maxHeartbeats 1000000
namespace ST
open PySem
def Ld (w : World) : Bool := !(w.params.followText "set-order")
def theSet (es : Array (Int × Value)) (ep : Nat) (t : SetTable) : Obj := { cls := .type "set", dict := none, data := .set es ep t }
def keysOf (es : Array (Int × Value)) : List Int := es.toList.map (·.1)
structure SetAt (w : World) (h : Heap) (a : Addr) (ks : List Int) (es : Array (Int × Value)) (ep : Nat) (t : SetTable) : Prop where
  get : h.get? a = some (theSet es ep t)
  sm : Sm es
  perm : (keysOf es).Perm ks
  nd : ks.Nodup
  good : Good (Ld w) t es.size
def IsS (w : World) (h : Heap) (a : Addr) (ks : List Int) : Prop := ∃ es ep t, SetAt w h a ks es ep t
theorem hash_small {n : Int} (h0 : 0 ≤ n) (h1 : n < 50) : hashInt n = n := by
  have : ∀ k : Nat, k < 50 → hashInt (k : Int) = (k : Int) := by decide +kernel
  obtain ⟨k, rfl⟩ := Int.eq_ofNat_of_zero_le h0
  exact this k (by omega)
theorem Sm.elems {prog : Program} {w : World} {es : Array (Int × Value)} (h : Sm es) : ElemsOf (intKind prog w) es.toList := by
  intro e he
  obtain ⟨⟨h0, h1⟩, tk, h2⟩ := h e he
  refine ⟨⟨e.1, by rw [h2]; simp [intKind, Value.isInt], (hash_small h0 h1).symm⟩, by rw [h2]; rfl⟩
theorem small_len {ks : List Int} (hn : ks.Nodup) (hb : ∀ k ∈ ks, 0 ≤ k ∧ k < 50) : ks.length ≤ 50 := by
  have := sub_len (m := (List.range 50).map Int.ofNat) hn fun x hx => by
    obtain ⟨h0, h1⟩ := hb x hx
    obtain ⟨k, rfl⟩ := Int.eq_ofNat_of_zero_le h0
    exact List.mem_map.2 ⟨k, List.mem_range.2 (by omega), rfl⟩
  simpa using this
section
variable {w : World} {h : Heap} {a : Addr} {ks : List Int} {es : Array (Int × Value)} {ep : Nat} {t : SetTable}
theorem SetAt.small (S : SetAt w h a ks es ep t) : ∀ k ∈ ks, 0 ≤ k ∧ k < 50 := by
  intro k hk
  obtain ⟨e, he, rfl⟩ := List.mem_map.1 (S.perm.mem_iff.2 hk)
  exact (S.sm e he).1
theorem SetAt.len (S : SetAt w h a ks es ep t) : es.size = ks.length := by
  rw [← S.perm.length_eq]; simp [keysOf]
theorem SetAt.le (S : SetAt w h a ks es ep t) : es.size ≤ 50 := by
  rw [S.len]; exact small_len S.nd S.small
theorem SetAt.len49 (S : SetAt w h a ks es ep t) {n : Int} (h0 : 0 ≤ n) (h1 : n < 50) (hn : n ∉ ks) : es.size + 1 ≤ 50 := by
  have := small_len (ks := n :: ks) (List.nodup_cons.2 ⟨hn, S.nd⟩) fun k hk => by
    rcases List.mem_cons.1 hk with e | e
    · exact e ▸ ⟨h0, h1⟩
    · exact S.small k e
  rw [S.len]; simpa using this
end
theorem find_none {l : List (Int × Value)} {n : Int} {prog : Program} {w : World} (hs : ∀ e ∈ l, (0 ≤ e.1 ∧ e.1 < 50) ∧ ∃ tk, e.2 = .int e.1 tk) :
    (n ∈ l.map (·.1) → ∃ j, l.findIdx? (fun e => (intKind prog w).is n e.2) = some j) ∧ (n ∉ l.map (·.1) → l.findIdx? (fun e => (intKind prog w).is n e.2) = none) := by
  constructor
  · intro hm
    obtain ⟨e, he, rfl⟩ := List.mem_map.1 hm
    cases hf : l.findIdx? (fun e' => (intKind prog w).is e.1 e'.2) with
    | some j => exact ⟨j, rfl⟩
    | none =>
      have := List.findIdx?_eq_none_iff.mp hf e he
      obtain ⟨_, tk, h2⟩ := hs e he
      rw [h2] at this
      simp [intKind, Value.isInt] at this
  · intro hm
    rw [List.findIdx?_eq_none_iff]
    intro e he
    obtain ⟨_, tk, h2⟩ := hs e he
    rw [h2]
    have : e.1 ≠ n := fun g => hm (g ▸ List.mem_map.2 ⟨e, he, rfl⟩)
    simp [intKind, Value.isInt, this]
theorem put_set {h : Heap} {a : Addr} {es : Array (Int × Value)} {ep : Nat} {t : SetTable} (ho : h.get? a = some (theSet es ep t)) (es' : Array (Int × Value)) (t' : SetTable) :
    (h.update a (Obj.putSet es' t')).get? a = some (theSet es' (ep + 1) t') := by
  have := Heap.get?_update_self (Obj.putSet es' t') ho (by rfl)
  exact this
section
variable {prog : Program} {w : World} {A : Around} {E : Value → Shared → Prop} {s : Shared}
theorem line_ok {n : Nat} (h : n ≤ 100) : n ≤ sizeLine := by rw [sizeLine_eq]; omega
theorem add_wp {a : Addr} {n : Int} {tk : Tok} {ks : List Int} {Q : Bool → Shared → Prop} (hS : IsS w s.heap a ks) (h0 : 0 ≤ n) (h1 : n < 50)
    (hQ : ∀ b h', Heap.SameBut a s.heap h' → IsS w h' a (if n ∈ ks then ks else ks ++ [n]) → Q b { s with heap := h' }) :
    wpAny (model prog w) A (setAddHashed a (.int n tk) n) Q E s := by
  obtain ⟨es, ep, t, S⟩ := hS
  have hsz := S.le
  have hel : ElemsOf (intKind prog w) es.toList := S.sm.elems
  have hsc : byScan (.int n tk) es = true := byScan_of rfl (by unfold scanBound; omega) hel
  obtain ⟨f1, f2⟩ := find_none (prog := prog) (w := w) (n := n) (l := es.toList) S.sm
  have hmem : n ∈ es.toList.map (·.1) ↔ n ∈ ks := S.perm.mem_iff
  unfold setAddHashed setAddHashedIn
  refine wpAny_holding (wpAny_bind (wpAny_setState_of S.get rfl S.good.fits ?_)); dsimp only
  rw [hsc]; simp only [↓reduceIte]; unfold setAddByScan
  refine wpAny_bind (wpAny_bind (wpAny_rule (wpAny_bind ?_)))
  have hscan := fun (Q' : ScanMet → Shared → Prop) hq => wpAny_setScan_of (A := A) (E := E) (s := s) (knd := intKind prog w) (k := n) (x := .int n tk) (adding := true) (Q := Q') (by simp [intKind, Value.isInt]) S.get rfl S.good.fits hel hq
  rw [show (intKind prog w).hash n = n from hash_small h0 h1] at hscan
  refine hscan _ ?_
  by_cases hm : n ∈ ks
  · obtain ⟨j, hj⟩ := f1 (hmem.2 hm)
    rw [hj]
    refine wpAny_pure (wpAny_pure ?_)
    have := hQ false s.heap (Heap.SameBut.refl a s.heap)
    rw [if_pos hm] at this
    exact this ⟨es, ep, t, S⟩
  · rw [f2 fun g => hm (hmem.1 g)]
    have h49 := S.len49 h0 h1 hm
    obtain ⟨es1, t1, e1, p1, l1, q1, d1, z1, r1, m1, fit1⟩ := layNew_ok (x := .int n tk) S.good h0 h1
    have sz1 : es1.size = es.size + 1 := by rw [← Array.length_toList, p1.length_eq]; simp
    have sm1 : Sm es1 := by
      intro e he
      have := p1.mem_iff.1 he
      rw [Array.toList_push] at this
      rcases List.mem_append.1 this with g | g
      · exact S.sm e g
      · rw [List.mem_singleton] at g; subst g; exact ⟨⟨h0, h1⟩, tk, rfl⟩
    have pm1 : (keysOf es1).Perm (ks ++ [n]) := by
      unfold keysOf
      refine (p1.map _).trans ?_
      rw [Array.toList_push, List.map_append]
      exact S.perm.append (List.Perm.refl _)
    have nd1 : (ks ++ [n]).Nodup := by
      rw [List.nodup_append]
      exact ⟨S.nd, by simp, fun x hx y hy e => by rw [List.mem_singleton] at hy; subst hy; subst e; exact hm hx⟩
    dsimp only
    rw [e1]
    dsimp only
    refine wpAny_bind (wpAny_pure ?_)
    rw [q1]
    simp only [↓reduceIte]
    refine wpAny_bind (wpAny_of_eq (hashByValue_scannable 8 rfl) ?_)
    simp only [plainKind, ↓reduceIte, Bool.not_false, Bool.true_and]
    refine wpAny_bind (wpAny_storeSet_of S.get rfl ?_ (line_ok (by omega)))
    have g1 := put_set S.get es1 t1
    have sb1 := Heap.SameBut.update s.heap a (Obj.putSet es1 t1)
    by_cases hfull : t1.tooFull = true
    · rw [if_pos hfull]
      have hgr : SetTable.grown es1.size = es1.size * 4 := by unfold SetTable.grown; rw [if_neg (by omega)]
      obtain ⟨t2, es2, e2, g2, p2, _⟩ := relayAll_ok (L := Ld w) (t := t1) (es := es1) (wanted := SetTable.grown es1.size) l1 q1 sm1 (by rw [hgr]; omega) (by rw [hgr]; omega)
      rw [e2]
      have sz2 : es2.size = es1.size := by rw [← Array.length_toList, p2.length_eq, Array.length_toList]
      dsimp only
      refine wpAny_bind (wpAny_pure ?_)
      refine wpAny_bind (wpAny_storeSet_of (es' := es2) g1 rfl ?_ (line_ok (by omega)))
      refine wpAny_pure (wpAny_pure ?_)
      have := hQ true _ (sb1.trans (Heap.SameBut.update _ a (Obj.putSet es2 t2)))
      rw [if_neg hm] at this
      exact this ⟨es2, _, t2, put_set g1 es2 t2, sm1.perm p2, (p2.map _).trans pm1, nd1, sz2 ▸ g2⟩
    · rw [if_neg hfull]
      refine wpAny_pure (wpAny_pure ?_)
      have := hQ true _ sb1
      rw [if_neg hm] at this
      refine this ⟨es1, _, t1, g1, sm1, pm1, nd1, l1, q1, d1, by rw [z1, sz1], r1, by rw [m1]; exact S.good.mask, ?_⟩
      have : t1.fill * 5 < t1.mask * 3 := by
        unfold SetTable.tooFull at hfull
        simpa using hfull
      unfold SetTable.fill at this
      rw [z1, d1] at this
      rw [sz1]; simpa using this
end
end ST
set_option maxHeartbeats 1000000
namespace ST
open PySem PySem.W PyProof.Rows
theorem slot_si_next : Slot "set_iterator" "__next__" "set_iterator.__next__" := .of (owner := "set_iterator") (n := "__next__")
  (by rw [typeLookup_type, builtinLookup_eq_fast]; kernel_rfl) (by decide +kernel) (by decide +kernel) (by decide +kernel) (by first | exact .inl (by decide +kernel) | exact .inr (by decide +kernel)) (by rw [isSubtype_type]; kernel_rfl)
theorem slot_si_iter : Slot "set_iterator" "__iter__" "set_iterator.__iter__" := .of (owner := "set_iterator") (n := "__iter__")
  (by rw [typeLookup_type, builtinLookup_eq_fast]; kernel_rfl) (by decide +kernel) (by decide +kernel) (by decide +kernel) (by first | exact .inl (by decide +kernel) | exact .inr (by decide +kernel)) (by rw [isSubtype_type]; kernel_rfl)
theorem entry_si_next : entryFor table "set_iterator.__next__" = some Builtin.«set_iterator.__next__» := entryFor_of_tree (by kernel_rfl)
theorem entry_si_iter : entryFor table "set_iterator.__iter__" = some Builtin.«dict_keyiterator.__iter__» := entryFor_alias (id' := "dict_keyiterator.__iter__") (by kernel_rfl) rfl (by decide +kernel) (by kernel_rfl)
theorem owner_si : Manifest.owners.lookup (String.ofList ['r', 'o', 't', 'a', 'r', 'e', 't', 'i', '_', 't', 'e', 's'].reverse) = some Manifest.sig_set_iterator := by kernel_rfl
theorem args_si_next (a : Value) : argsOk "set_iterator.__next__" ⟨[a], []⟩ := by
  unfold argsOk; rw [signature?_of (id := "set_iterator.__next__") (n := ['_', '_', 't', 'x', 'e', 'n', '_', '_']) (o := ['r', 'o', 't', 'a', 'r', 'e', 't', 'i', '_', 't', 'e', 's']) (by kernel_rfl) owner_si]; kernel_rfl
theorem args_si_iter (a : Value) : argsOk "set_iterator.__iter__" ⟨[a], []⟩ := by
  unfold argsOk; rw [signature?_of (id := "set_iterator.__iter__") (n := ['_', '_', 'r', 'e', 't', 'i', '_', '_']) (o := ['r', 'o', 't', 'a', 'r', 'e', 't', 'i', '_', 't', 'e', 's']) (by kernel_rfl) owner_si]; kernel_rfl
theorem entry_set_iter : entryFor table "set.__iter__" = some Builtin.«frozenset.__iter__» := entryFor_alias (id' := "frozenset.__iter__") (by kernel_rfl) rfl (by decide +kernel) (by kernel_rfl)
def order (w : World) (a : Addr) (ep : Nat) (es : Array (Int × Value)) : Array (Int × Value) := if w.params.followText "set-order" = true then pickOrder (w.params.setOrder a ep) es else es
theorem erase_perm {α : Type} : ∀ (l : List α) (i : Nat) (h : i < l.length), (l[i] :: l.eraseIdx i).Perm l
  | x :: l, 0, _ => List.Perm.refl _
  | x :: l, i + 1, h => (List.Perm.swap x (l[i]'(by simpa using h)) (l.eraseIdx i)).trans ((erase_perm l i (by simpa using h)).cons x)
theorem pick_go {α : Type} (next : Nat → Nat) : ∀ (n k : Nat) (l : List α) (out : Array α), n = l.length → (pickOrder.go next n k l out).toList.Perm (out.toList ++ l)
  | 0, _, [], out, _ => by simp [pickOrder.go]
  | n + 1, k, l, out, h => by
    have hl : next k % l.length < l.length := Nat.mod_lt _ (by omega)
    unfold pickOrder.go
    rw [List.getElem?_eq_getElem hl]
    dsimp only
    refine (pick_go next n (k + 1) (l.eraseIdx (next k % l.length)) _ (by rw [List.length_eraseIdx_of_lt hl]; omega)).trans ?_
    rw [Array.toList_push, List.append_assoc]
    refine List.Perm.append (List.Perm.refl _) ?_
    rw [List.singleton_append]
    exact erase_perm l _ hl
theorem order_perm (w : World) (a : Addr) (ep : Nat) (es : Array (Int × Value)) : (order w a ep es).toList.Perm es.toList := by
  unfold order
  split
  · have := pick_go (w.params.setOrder a ep) es.size 0 es.toList #[] (by simp)
    simpa [pickOrder] using this
  · exact List.Perm.refl _
theorem order_size (w : World) (a : Addr) (ep : Nat) (es : Array (Int × Value)) : (order w a ep es).size = es.size := by
  rw [← Array.length_toList, (order_perm w a ep es).length_eq, Array.length_toList]
def itObj (a : Addr) (sl i n ep : Nat) : Obj := { cls := .type "set_iterator", data := .fields #[.int sl 0, .int i 0, .ref a, .int n 0, .int ep 0] }
structure ItAt (w : World) (h : Heap) (I a : Addr) (i n ep : Nat) (t : SetTable) : Prop where
  there : ∃ sl, (w.params.followText "set-order" = false → SetTable.below t.place sl = i) ∧ ∃ o, h.get? I = some o ∧ o.cls = .type "set_iterator" ∧ o.data = .fields #[.int sl 0, .int i 0, .ref a, .int n 0, .int ep 0]
theorem below_zero {xs : Array Nat} (hr : Ris xs) : SetTable.below xs 0 = 0 := by
  obtain ⟨h1, _, h3⟩ := below_spec (xs := xs) 0 hr
  rcases Nat.eq_zero_or_pos (SetTable.below xs 0) with e | e
  · exact e
  · obtain ⟨v, hv⟩ := some_of (xs := xs) (k := 0) (by omega)
    exact absurd (h1 0 v e hv) (Nat.not_lt_zero _)
theorem below_next {xs : Array Nat} (hr : Ris xs) {i j : Nat} (h : xs[i]? = some j) : SetTable.below xs (j + 1) = i + 1 := by
  obtain ⟨h1, h2, h3⟩ := below_spec (xs := xs) (j + 1) hr
  have hi : i < xs.size := by
    rcases Nat.lt_or_ge i xs.size with g | g
    · exact g
    · rw [Array.getElem?_eq_none g] at h; cases h
  rcases Nat.lt_trichotomy (SetTable.below xs (j + 1)) (i + 1) with g | g | g
  · have := h2 i j (by omega) h; omega
  · exact g
  · obtain ⟨v, hv⟩ := some_of (xs := xs) (k := i + 1) (by omega)
    have := h1 (i + 1) v g hv
    have := hr.lt h hv (by omega)
    omega
section
variable {prog : Program} {w : World} {A : Around} {E : Value → Shared → Prop} {s : Shared} {a : Addr} {ks : List Int} {es : Array (Int × Value)} {ep : Nat} {t : SetTable}
theorem SetAt.typeIs (S : SetAt w s.heap a ks es ep t) : s.TypeIs (.ref a) "set" := ⟨_, S.get, rfl⟩
theorem state_wp {Q : (Array (Int × Value) × Nat × SetTable) → Shared → Prop} (S : SetAt w s.heap a ks es ep t) (h : Q (es, ep, t) s) : wpAny (model prog w) A (setState a) Q E s := wpAny_setState_of S.get rfl S.good.fits h
theorem text_wp {Q : Bool → Shared → Prop} (h : Q (w.params.followText "set-order") s) : wpAny (model prog w) A setsByText Q E s := by
  unfold setsByText
  exact wpAny_bind (wpAny_askSetting (wpAny_pure h))
theorem hint_set {Q : Bool → Shared → Prop} (hT : s.TypeIs (.ref a) "set") (h : Q false s) : wpAny (model prog w) A (Builtin.List.listLengthHint (.ref a)) Q E s := by
  unfold Builtin.List.listLengthHint
  refine wpAny_bind (wpAny_specialOf hT PySem.F.slot_set_len.lookup ?_)
  generalize hid : ("set.__len__" : String) = id0
  wp_delta
  rw [show splitId id0 = some ("set", "__len__") from by subst hid; decide +kernel]
  subst hid
  refine wpAny_bind (wpAny_isInstance (T := "set") (b := true) hT (by rw [isSubtype_type]; kernel_rfl) ?_)
  refine wpAny_ite_split (fun hab => absurd hab (by decide)) (fun _ => ?_)
  refine wpAny_ite_split (fun _ => ?_) (fun hab => absurd (by decide +kernel) hab)
  exact wpAny_bind (wpAny_typeOf hT (wpAny_pure h))
theorem drawn_wp {Q : Bool → Shared → Prop} (S : SetAt w s.heap a ks es ep t) (h : Q false s) : wpAny (model prog w) A (setDrawn a) Q E s := by
  unfold setDrawn
  refine wpAny_bind (state_wp S ?_); dsimp only
  refine wpAny_bind (text_wp (wpAny_pure ?_))
  have : (!w.params.followText "set-order" && (!t.plain && decide (es.size > 1))) = false := by rw [S.good.plain]; simp
  exact this ▸ h
theorem iter_wp {Q : Value → Shared → Prop} (S : SetAt w s.heap a ks es ep t) (hQ : Q (.ref s.heap.objs.size) { s with heap := s.heap.push (itObj a 0 0 es.size ep) }) : wpAny (model prog w) A (pyIter (.ref a)) Q E s := by
  refine wpAny_pyIter_slot S.typeIs PySem.F.slot_set_iter (wpAny_call_entry PySem.F.slot_set_iter S.typeIs entry_set_iter ?_ (PySem.F.args_set_iter_1 _))
  unfold Builtin.«frozenset.__iter__»
  refine wpAny_bind (wpAny_bind (m := slotArgs "__iter__" 0 _) (wpAny_pure (wpAny_pure ?_)))
  refine wpAny_bind (wpAny_bind (wpAny_setEntries_of S.get rfl S.good.fits (wpAny_pure ?_)))
  refine wpAny_bind (drawn_wp S ?_)
  simp only [Bool.false_eq_true, if_false]
  refine wpAny_bind (wpAny_pure (wpAny_bind (wpAny_setEpoch_of S.get rfl S.good.fits ?_)))
  refine wpAny_bind (wpAny_newObj_type (wpAny_pure ⟨_, rfl, "set_iterator", _, ⟨_, Heap.get?_push_size _ rfl, rfl⟩, slot_si_next.lookup, ?_⟩))
  simpa [rawInt, itObj] using hQ
theorem walk_wp {Q : Array (Int × Value) → Shared → Prop} (S : SetAt w s.heap a ks es ep t) (h : Q (order w a ep es) s) : wpAny (model prog w) A (setWalk a) Q E s := by
  unfold setWalk order at *
  refine wpAny_bind (state_wp S ?_); dsimp only
  refine wpAny_bind (text_wp ?_)
  by_cases hb : w.params.followText "set-order" = true
  · rw [if_pos hb] at h ⊢
    exact wpAny_bind (wpAny_askSetting (wpAny_pure h))
  · rw [if_neg hb] at h ⊢
    have hl : t.led = true := by rw [S.good.led]; simpa [Ld] using hb
    have hd : (!t.plain && decide (es.size > 1)) = false := by rw [S.good.plain]; rfl
    refine wpAny_ite_split (fun hab => absurd (hd.symm.trans hab) (by decide)) (fun _ => ?_)
    refine wpAny_bind (wpAny_ite_split (fun hab => ?_) (fun _ => wpAny_pure (wpAny_pure h)))
    rw [hl] at hab; simp at hab
theorem next_wp {sl i : Nat} {Q : Option (Value × Nat) → Shared → Prop} (S : SetAt w s.heap a ks es ep t) (hsl : w.params.followText "set-order" = false → SetTable.below t.place sl = i)
    (h1 : ∀ x sl', (order w a ep es)[i]? = some x → (w.params.followText "set-order" = false → SetTable.below t.place sl' = i + 1) → Q (some (x.2, sl')) s) (h2 : (order w a ep es)[i]? = none → Q none s) : wpAny (model prog w) A (setNext a sl i ep) Q E s := by
  unfold setNext
  refine wpAny_bind (state_wp S ?_); dsimp only
  refine wpAny_bind (text_wp ?_)
  by_cases hb : w.params.followText "set-order" = true
  · rw [if_pos hb]
    refine wpAny_ite_split (fun hab => absurd hab (by simp)) (fun _ => ?_)
    refine wpAny_bind (walk_wp S (wpAny_pure ?_))
    cases hx : (order w a ep es)[i]? with
    | none => exact h2 hx
    | some x => exact h1 x sl hx fun g => by rw [hb] at g; cases g
  · rw [if_neg hb]
    have hl : t.led = true := by rw [S.good.led]; simpa [Ld] using hb
    have ho : order w a ep es = es := by unfold order; rw [if_neg hb]
    have hd : (!t.plain && decide (es.size > 1)) = false := by rw [S.good.plain]; rfl
    refine wpAny_ite_split (fun hab => absurd (hd.symm.trans hab) (by decide)) (fun _ => ?_)
    refine wpAny_bind (wpAny_ite_split (fun hab => ?_) (fun _ => wpAny_pure (wpAny_pure ?_)))
    · rw [hl] at hab; simp at hab
    · rw [hsl (by simpa using hb)]
      rw [ho] at h1 h2
      cases hx : es[i]? with
      | none => exact h2 hx
      | some x =>
        have hi : i < t.place.size := by
          rw [S.good.size]
          rcases Nat.lt_or_ge i es.size with g | g
          · exact g
          · rw [Array.getElem?_eq_none g] at hx; cases hx
        obtain ⟨j, hj⟩ := some_of hi
        rw [hj]
        exact h1 x (j + 1) hx fun _ => below_next S.good.ris hj
theorem ItAt.typeIs {I i n : Nat} (x : ItAt w s.heap I a i n ep t) : s.TypeIs (.ref I) "set_iterator" := let ⟨_, _, o, ho, hc, _⟩ := x.there; ⟨o, ho, hc⟩
theorem item_wp {I i : Nat} {Q : Option Value → Shared → Prop} (x : ItAt w s.heap I a i es.size ep t) (S : SetAt w s.heap a ks es ep t) (hi : i < es.size)
    (hQ : ∀ v h', (order w a ep es)[i]?.map (·.2) = some v → ItAt w h' I a (i + 1) es.size ep t → Heap.SameBut I s.heap h' → Q (some v) { s with heap := h' }) : wpAny (model prog w) A (pyNext (.ref I)) Q E s := by
  obtain ⟨sl, hsl, o, ho, hc, hd⟩ := x.there
  unfold pyNext
  refine wpAny_bind (wpAny_attempt (wpAny_callSpecial?_slot (name := Str.ofString "__next__") x.typeIs slot_si_next (wpAny_call_entry slot_si_next x.typeIs entry_si_next ?_ (args_si_next _))))
  unfold Builtin.«set_iterator.__next__»
  refine wpAny_bind (m := slotArgs "__next__" 0 _) (wpAny_pure ?_)
  refine wpAny_bind (wpAny_fieldsOf ho hd ?_); dsimp only
  refine wpAny_bind (wpAny_setEntries_of S.get rfl S.good.fits ?_)
  refine wpAny_ite_split (fun hab => absurd hab (by simp)) (fun _ => ?_)
  simp only [Int.toNat_natCast]
  refine wpAny_bind (next_wp S hsl (fun y sl' hy hsl' => ?_) fun hn => ?_)
  · dsimp only
    refine wpAny_bind (wpAny_setField ho hd (by simp) ?_)
    have g1 := Heap.get?_update_self (Obj.mapFields (·.setIfInBounds 0 (rawInt (sl' : Int)))) ho (Obj.isFreed_of_fields (Obj.data_mapFields hd _))
    refine wpAny_bind (wpAny_setField g1 (Obj.data_mapFields hd _) (by simp) ?_)
    refine wpAny_pure ⟨_, rfl, wpAny_pure (hQ _ _ (by rw [hy]; rfl) ⟨sl', hsl', _, Heap.get?_update_self _ g1 (Obj.isFreed_of_fields (Obj.data_mapFields (Obj.data_mapFields hd _) _)), ?_, ?_⟩ ((Heap.SameBut.update ..).trans (Heap.SameBut.update ..)))⟩
    · exact ((Obj.cls_mapFields ..).trans (Obj.cls_mapFields ..)).trans hc
    · rw [Obj.data_mapFields (Obj.data_mapFields hd _)]; simp [rawInt]
  · rw [Array.getElem?_eq_none_iff, order_size] at hn
    omega
theorem end_wp {I : Nat} {Q : Option Value → Shared → Prop} (hh : A.handled = none) (x : ItAt w s.heap I a es.size es.size ep t) (S : SetAt w s.heap a ks es ep t)
    (hQ : ∀ h', Heap.ExtBut I s.heap h' → Q none { s with heap := h' }) : wpAny (model prog w) A (pyNext (.ref I)) Q E s := by
  obtain ⟨sl, hsl, o, ho, hc, hd⟩ := x.there
  unfold pyNext
  refine wpAny_bind (wpAny_attempt (wpAny_callSpecial?_slot (name := Str.ofString "__next__") x.typeIs slot_si_next (wpAny_call_entry slot_si_next x.typeIs entry_si_next ?_ (args_si_next _))))
  unfold Builtin.«set_iterator.__next__»
  refine wpAny_bind (m := slotArgs "__next__" 0 _) (wpAny_pure ?_)
  refine wpAny_bind (wpAny_fieldsOf ho hd ?_); dsimp only
  refine wpAny_bind (wpAny_setEntries_of S.get rfl S.good.fits ?_)
  refine wpAny_ite_split (fun hab => absurd hab (by simp)) (fun _ => ?_)
  simp only [Int.toNat_natCast]
  refine wpAny_bind (next_wp S hsl (fun y sl' hy hsl' => ?_) fun hn => ?_)
  · have := (Array.getElem?_eq_some_iff.1 hy).1
    rw [order_size] at this; omega
  · dsimp only
    refine wpAny_bind (wpAny_setField ho hd (by simp) ?_)
    refine wpAny_bind ?_
    simp only [newExc, newTuple]
    refine wpAny_bind (wpAny_newObj_type ?_ (by size_fits))
    refine wpAny_bind (m := firstArgMember _ _) (wpAny_of_eq (a := Value.none) (by first | rfl | (simp only [firstArgMember]; rfl)) (wpAny_newObj_type ?_ (by size_fits)))
    simp only [raiseNew]
    refine wpAny_bind (wpAny_handled ?_); rw [show A.in1.handled = none from hh]
    refine wpAny_bind (wpAny_pure (wpAny_throw ?_)); refine wpAny_bind (wpAny_isInstance (T := "StopIteration") (b := true) ⟨_, Heap.get?_push_size _ rfl, rfl⟩ isSubtype_stop (wpAny_pure ?_))
    exact hQ _ (((Heap.SameBut.update ..).extBut.push _).push _)
theorem self_wp {I i n : Nat} {Q : Value → Shared → Prop} (x : ItAt w s.heap I a i n ep t) (h : Q (.ref I) s) : wpAny (model prog w) A (pyIter (.ref I)) Q E s := by
  refine wpAny_pyIter_slot x.typeIs slot_si_iter (wpAny_call_entry slot_si_iter x.typeIs entry_si_iter ?_ (args_si_iter _))
  show wpAny _ _ (ret (.ref I)) _ _ s
  exact wpAny_pure ⟨_, rfl, "set_iterator", _, x.typeIs, slot_si_next.lookup, h⟩
end
theorem SetAt.at {w : World} {h h' : Heap} {a : Addr} {ks : List Int} {es : Array (Int × Value)} {ep : Nat} {t : SetTable} (S : SetAt w h a ks es ep t) (k : ∀ o, h.get? a = some o → h'.get? a = some o) : SetAt w h' a ks es ep t := ⟨k _ S.get, S.sm, S.perm, S.nd, S.good⟩
theorem walksSet {prog : Program} {w : World} {A : Around} (hh : A.handled = none) (I a : Addr) (hne : a ≠ I) (ks : List Int) (es : Array (Int × Value)) (ep : Nat) (t : SetTable) :
    Walks prog w A I [I, a] [I] es.size (fun i v => (order w a ep es)[i]?.map (·.2) = some v) (fun i h => ItAt w h I a i es.size ep t ∧ SetAt w h a ks es ep t) where
  sub := fun b hb => by simp at hb; simp [hb]
  frame := fun _ _ _ st hk => ⟨let ⟨sl, q, o, ho, r⟩ := st.1.there; ⟨sl, q, o, hk I (by simp) o ho, r⟩, st.2.at fun o e => hk a (by simp) o e⟩
  item := fun i s Q E hi st hQ => item_wp st.1 st.2 hi fun v h' hv hit hs => hQ v h' s.toks hv ⟨hit, st.2.at fun o e => hs.extBut a o hne e⟩ fun b o hb e => hs.extBut b o (fun h => hb (by simp [h])) e
  done := fun s Q E st hQ => end_wp hh st.1 st.2 fun h' he' => hQ h' s.toks fun b o hb e => he' b o (fun h => hb (by simp [h])) e
  self := fun _ _ _ _ st hQ => self_wp st.1 hQ
theorem srcSet {prog : Program} {w : World} {a : Addr} {ks : List Int} {es : Array (Int × Value)} {ep : Nat} {t : SetTable} :
    KdlSrc prog w "set" a a es.size (fun i v => (order w a ep es)[i]?.map (·.2) = some v) (fun h => SetAt w h a ks es ep t) where
  type := fun _ S => S.typeIs
  there := fun _ S => ⟨Heap.lt_size S.get, Heap.lt_size S.get⟩
  keep := fun _ _ S hk => S.at fun o e => hk a (.inl rfl) o e
  notList := by decide
  notTuple := by decide
  hint := fun _ _ _ _ S hq => hint_set S.typeIs hq
  iter := fun _ _ hh S => ⟨_, _, (fun _ _ hq => iter_wp S hq), walksSet hh _ a (Nat.ne_of_lt (Heap.lt_size S.get)) ks es ep t, ⟨0, fun _ => below_zero S.good.ris, _, Heap.get?_push_size _ rfl, rfl, rfl⟩, S.at fun o e => Heap.get?_push_of_some _ e⟩
end ST
set_option maxHeartbeats 1000000
namespace ST
open PySem PySem.W PyProof.Rows
def smalls : List Int := (List.range 50).map Int.ofNat
def canon (p : Int → Bool) : List Int := smalls.filter p
theorem smalls_lt : smalls.Pairwise (· < ·) := by decide +kernel
theorem smalls_nd : smalls.Nodup := smalls_lt.imp fun {a b} h => Int.ne_of_lt h
theorem mem_smalls {k : Int} : k ∈ smalls ↔ 0 ≤ k ∧ k < 50 := by
  unfold smalls
  rw [List.mem_map]
  constructor
  · rintro ⟨n, hn, rfl⟩
    have := List.mem_range.1 hn
    exact ⟨Int.natCast_nonneg n, by show ((n : Int)) < 50; omega⟩
  · rintro ⟨h0, h1⟩
    obtain ⟨n, rfl⟩ := Int.eq_ofNat_of_zero_le h0
    exact ⟨n, List.mem_range.2 (by omega), rfl⟩
theorem mem_canon {p : Int → Bool} {k : Int} : k ∈ canon p ↔ (0 ≤ k ∧ k < 50) ∧ p k = true := by
  unfold canon; rw [List.mem_filter, mem_smalls]
theorem canon_sorted {p : Int → Bool} {ns ks : List Int} (hs : ns.Pairwise (· ≤ ·)) (hp : ns.Perm ks) (hn : ks.Nodup) (hb : ∀ k ∈ ks, 0 ≤ k ∧ k < 50) (hm : ∀ k, k ∈ ks ↔ ((0 ≤ k ∧ k < 50) ∧ p k = true)) : ns = canon p := by
  refine List.Perm.eq_of_pairwise (le := (· ≤ ·)) (fun a b _ _ h1 h2 => Int.le_antisymm h1 h2) hs ((smalls_lt.imp fun {a b} h => Int.le_of_lt h).filter _) (hp.trans ?_)
  exact (List.perm_ext_iff_of_nodup hn (smalls_nd.filter _)).2 fun k => (hm k).trans mem_canon.symm
theorem ints_of {es : List (Int × Value)} (h : ∀ e ∈ es, (0 ≤ e.1 ∧ e.1 < 50) ∧ ∃ tk, e.2 = .int e.1 tk) : IntsAre (es.map (·.2)) (es.map (·.1)) := by
  induction es with
  | nil => exact .nil
  | cons e es ih =>
    obtain ⟨_, tk, h2⟩ := h e (by simp)
    rw [List.map_cons, List.map_cons, h2]
    exact .cons _ _ (ih fun e he => h e (by simp [he]))
section
variable {prog : Program} {w : World} {A : Around} {E : Value → Shared → Prop} {s : Shared} {a : Addr} {ks : List Int}
theorem sorted_set {Q : Value → Shared → Prop} (hh : A.handled = none) (hS : IsS w s.heap a ks)
    (h : ∀ (h' : Heap) (tk : Nat) (D : Addr) (out : Array Value) (ns : List Int) (c : Nat), (∀ b o, s.heap.get? b = some o → h'.get? b = some o) → s.heap.get? D = none → IntsAre out.toList ns → ns.Perm ks → ns.Pairwise (· ≤ ·) → h'.get? D = some (seqObj "list" out c) → Q (.ref D) { s with heap := h', toks := tk }) :
    wpAny (model prog w) A (call (.builtin "sorted") [.ref a]) Q E s := by
  obtain ⟨es, ep, t, S⟩ := hS
  have hn := S.le
  refine Calls.call_function_entry kind_sorted plain_sorted entry_sorted (args_sorted1 _) ?_
  unfold Builtin.«sorted»
  refine wpAny_bind (m := checkCount "sorted" 1 1 _) (wpAny_pure ?_)
  refine wpAny_bind (ZT.collect_src srcSet hh S (by rw [sizeLine_eq]; omega) fun h1 tk acc hk1 hacc => ?_)
  have ha : acc.toList = (order w a ep es).toList.map (·.2) := by
    apply List.ext_getElem?
    intro i
    rw [List.getElem?_map, Array.getElem?_toList, Array.getElem?_toList]
    rcases Nat.lt_or_ge i acc.size with g | g
    · have := hacc.2 i acc[i] (by simp [g])
      rw [this]; simp [g]
    · rw [Array.getElem?_eq_none g, Array.getElem?_eq_none (by rw [order_size, ← hacc.1]; exact g)]; rfl
  have hI : IntsAre acc.toList ((order w a ep es).toList.map (·.1)) := by
    rw [ha]; exact ints_of fun e he => S.sm e ((order_perm w a ep es).mem_iff.1 he)
  have hl : acc.toList.length < 64 := by rw [Array.length_toList, hacc.1]; omega
  refine wpAny_bind (wpAny_newList ?_ (by rw [sizeLine_eq]; omega))
  have hoL : (h1.push (seqObj "list" acc.toList.toArray 0)).get? h1.objs.size = some (seqObj "list" acc.toList.toArray 0) := Heap.get?_push_size _ rfl
  have hDn : s.heap.get? h1.objs.size = none := by
    cases q : s.heap.get? h1.objs.size with
    | none => rfl
    | some o => exact absurd (Heap.lt_size (hk1 _ _ q)) (Nat.lt_irrefl _)
  refine wpAny_bind (wpAny_holding (wpAny_call_entry slot_list_sort ⟨_, hoL, rfl⟩ entry_list_sort (list_sort_tree hoL hI hl fun out ns' a1 a2 a3 => ⟨_, rfl, ?_⟩) (args_list_sort _)))
  refine wpAny_pure ⟨_, rfl, ?_⟩
  obtain ⟨e1, ho1⟩ : ∃ e1, ((h1.push (seqObj "list" acc.toList.toArray 0)).update h1.objs.size (Obj.mapSeq fun _ => #[])).get? h1.objs.size = some (seqObj "list" #[] e1) := ⟨_, get?_update_seq hoL (fun _ => #[])⟩
  have ho6 : ((((h1.push (seqObj "list" acc.toList.toArray 0)).update h1.objs.size (Obj.mapSeq fun _ => #[])).push (seqObj "tuple" acc.toList.toArray 0)).push (seqObj "list" #[] 0)).get? h1.objs.size = some (seqObj "list" #[] e1) := Heap.get?_push_of_some _ (Heap.get?_push_of_some _ ho1)
  refine h _ tk h1.objs.size _ ns' _ (fun b o e => ?_) hDn a1 (a2.trans (((order_perm w a ep es).map _).trans S.perm)) a3 (get?_update_seq ho6 _)
  have hb : b ≠ h1.objs.size := Nat.ne_of_lt (Heap.lt_size (hk1 b o e))
  unfold sortedHeap
  exact (Heap.get?_update_other _ _ (Ne.symm hb)).trans (Heap.get?_push_of_some _ (Heap.get?_push_of_some _ ((Heap.get?_update_other _ _ (Ne.symm hb)).trans (Heap.get?_push_of_some _ (hk1 b o e)))))
def newS (w : World) : Obj := theSet #[] 0 (.fresh 0 0 (Ld w))
theorem fresh_at {h : Heap} (g : h.get? a = some (newS w)) : SetAt w h a [] #[] 0 (.fresh 0 0 (Ld w)) := ⟨g, fun e he => by simp at he, List.Perm.refl _, List.nodup_nil, good_fresh _⟩
theorem newSet_wp {Q : Value → Shared → Prop} (h : Q (.ref s.heap.objs.size) { s with heap := s.heap.push (newS w) }) : wpAny (model prog w) A (newSet (.type "set")) Q E s := by
  unfold newSet
  refine wpAny_bind (text_wp ?_); dsimp only
  simp only [newObj]
  exact wpAny_bind (wpAny_alloc (wpAny_pure h))
theorem new_code (x : Value) {Q₁ : Value → Shared → Prop} (h : Q₁ (.ref s.heap.objs.size) { s with heap := s.heap.push (newS w) }) :
    codeAny (model prog w) A (.call (.builtin "set.__new__") ⟨[.type "set", x], []⟩) (wants Q₁ E) s := by
  refine codeAny_of_tree ?_
  show wpAny _ A.in1 (checkBuiltinCall "set.__new__" ⟨[.type "set", x], []⟩ >>= fun _ => again (.builtin "set.__new__" ⟨[.type "set", x], []⟩)) _ _ s
  refine wpAny_bind (wpAny_of_eq (PySem.F.newCall_set_1 x) (wpAny_pure ⟨plainId_quiet PySem.F.plain_set_new _, codeAny_builtin PySem.F.entry_set_new ?_⟩))
  rw [Around.under_plainId PySem.F.plain_set_new _]; unfold Builtin.«set.__new__» Builtin.Frozenset.newClass
  have hsub := sub_set_self
  obtain ⟨hp, g, d, tk, os⟩ := s
  dsimp only
  wp_walk
  refine wpAny_askSetting (wpAny_pure ?_); dsimp only
  simp only [newObj]; exact wpAny_bind (wpAny_alloc (wpAny_pure (wpAny_pure h)))
theorem upd_loop {R : Result → Shared → Prop} {I : Addr} {fp wr : List Addr} {G : Array GenState → Array GenState → Prop} {n : Nat} {P : Nat → Value → Prop} {St : Nat → Shared → Prop}
    (W : WalksS prog w A.in1 I fp wr G n P St) (S : Addr) (hSf : S ∉ fp) (ns : List Int) (hb : ∀ k ∈ ns, 0 ≤ k ∧ k < 50) (hn : ns.length = n) (hval : ∀ i v k, P i v → ns[i]? = some k → ∃ t, v = .int k t) :
    ∀ (j i : Nat) (s : Shared) (ks : List Int), n - i = j → i ≤ n → St i s → IsS w s.heap S ks → (∀ k, k ∈ ks ↔ k ∈ ns.take i) →
      (∀ s' ks', Moved (S :: wr) G s s' → IsS w s'.heap S ks' → (∀ k, k ∈ ks' ↔ k ∈ ns) → R (.ok (.ret .none)) s') →
      codeAny (model prog w) A (.builtin "set.update.loop" ⟨[.ref S, .ref I], []⟩) R s := by
  have hSw : S ∉ wr := fun h => hSf (W.sub _ h)
  have hsub : ∀ b ∈ wr, b ∈ S :: wr := fun b hb => List.mem_cons_of_mem _ hb
  intro j
  induction j with
  | zero =>
    intro i s ks hk hi hst hS hm hR
    have hin : i = n := by omega
    subst hin
    refine codeAny_builtin F.entry_set_update_loop ?_; rw [Around.under_plainId F.plain_set_update_loop _]
    show wpAny _ A.in1 (pyNext (.ref I) >>= _) _ _ s
    refine wpAny_bind (W.done s _ _ hst fun s' hm' => ?_)
    show wpAny _ A.in1 (ret Value.none) _ _ s'
    obtain ⟨es, ep, t, S'⟩ := hS
    exact wpAny_pure (hR s' ks (hm'.mono hsub) ⟨es, ep, t, S'.at fun o e => hm'.heap S o hSw e⟩ fun k => by rw [hm k, List.take_of_length_le (by omega)])
  | succ j ih =>
    intro i s ks hk hi hst hS hm hR
    have hlt : i < n := by omega
    refine codeAny_builtin F.entry_set_update_loop ?_; rw [Around.under_plainId F.plain_set_update_loop _]
    show wpAny _ A.in1 (pyNext (.ref I) >>= _) _ _ s
    refine wpAny_bind (W.item i s _ _ hlt hst fun v s' hP hst' hm' => ?_)
    have hk' : ns[i]? = some ns[i] := by simp [hn, hlt]
    obtain ⟨tk, rfl⟩ := hval i v _ hP hk'
    obtain ⟨b0, b1⟩ := hb ns[i] (by simp)
    have hS' : IsS w s'.heap S ks := by
      obtain ⟨es, ep, t, S'⟩ := hS
      exact ⟨es, ep, t, S'.at fun o e => hm'.heap S o hSw e⟩
    show wpAny _ A.in1 (holding [Value.int ns[i] tk] (setAdd S (.int ns[i] tk)) >>= _) _ _ s'
    refine wpAny_bind (wpAny_holding ?_)
    unfold setAdd
    refine wpAny_holding (wpAny_bind (wpAny_pyHash_int ?_))
    rw [hash_small b0 b1]
    refine add_wp (s := { s' with toks := s'.toks + 1 }) hS' b0 b1 fun b h' hsb hS2 => ?_
    refine wpAny_pure ⟨plainId_quiet F.plain_set_update_loop _, ih (i + 1) _ _ (by omega) hlt (W.frame _ s' _ _ hst' (Nat.le_succ _) fun c hc o e => ?_) hS2 (fun k => ?_) fun s'' ks' hm'' hS'' hks => ?_⟩
    · rw [hsb.2 c (fun h : c = S => hSf (by rw [← h]; exact hc))]; exact e
    · rw [List.take_succ, hk', List.mem_append, ← hm k]
      split
      · rename_i hin
        constructor
        · exact .inl
        · rintro (g | g)
          · exact g
          · simp at g; subst g; exact hin
      · rw [List.mem_append]; simp
    · refine hR s'' ks' (Moved.trans W.gtrans ((hm'.mono hsub).then_heap (Nat.le_succ _) fun c o hc e => ?_) hm'') hS'' hks
      rw [hsb.2 c (fun h : c = S => hc (by rw [h]; exact List.mem_cons_self))]; exact e
theorem upd_wp {l : Addr} {items : Array Value} {ns : List Int} {S : Addr} {Q : Unit → Shared → Prop} (hh : A.handled = none) (hl : s.heap.IsList l items) (hi : IntsAre items.toList ns) (hb : ∀ k ∈ ns, 0 ≤ k ∧ k < 50) (hlS : l ≠ S) (hS : IsS w s.heap S [])
    (h : ∀ h' tk ks, IsS w h' S ks → (∀ k, k ∈ ks ↔ k ∈ ns) → (∀ b o, b ≠ S → s.heap.get? b = some o → h'.get? b = some o) → Q () { s with heap := h', toks := tk }) :
    wpAny (model prog w) A (Builtin.Frozenset.updateFrom "set.__init__" S (.ref l)) Q E s := by
  obtain ⟨ol, hol, hcl, nl, hdl⟩ := id hl
  have hT : s.TypeIs (.ref l) "list" := ⟨ol, hol, hcl⟩
  obtain ⟨oS, hoS⟩ : ∃ o, s.heap.get? S = some o := let ⟨_, _, _, x⟩ := hS; ⟨_, x.get⟩
  have hlz := Heap.lt_size hol
  have hSz := Heap.lt_size hoS
  have hS1 : IsS w (s.heap.push { cls := .type "list_iterator", data := .fields #[.ref l, .int 0 0] }) S [] := let ⟨es, ep, t, x⟩ := hS; ⟨es, ep, t, x.at fun o e => Heap.get?_push_of_some _ e⟩
  have hSf : S ∉ [s.heap.objs.size, l] := by simp; exact ⟨Nat.ne_of_lt hSz, Ne.symm hlS⟩
  unfold Builtin.Frozenset.updateFrom Builtin.Frozenset.isAnySet
  refine wpAny_bind (wpAny_bind (wpAny_isInstance hT F.sub_list_set ?_))
  refine wpAny_isInstance hT F.sub_list_frozenset ?_
  refine wpAny_ite_split (fun hab => absurd hab (by decide)) (fun _ => ?_)
  refine wpAny_bind (wpAny_typeOf hT ?_)
  refine wpAny_ite_split (fun hab => absurd hab (by decide)) (fun _ => ?_)
  refine wpAny_bind (wpAny_pyIter_list hl (wpAny_bind (wpAny_runValue ?_)))
  refine upd_loop ((Walks.list (by simpa using hh) _ l (Nat.ne_of_lt hlz) items).toS) S hSf ns hb (by rw [← IntsAre.length hi]; simp) (fun i v k hv hk => ?_) items.size 0 _ [] (by omega) (Nat.zero_le _) ⟨⟨_, Heap.get?_push_size _ rfl, rfl, rfl⟩, hl.push _⟩ hS1 (fun k => by simp) fun s' ks hm hS' hks => ?_
  · obtain ⟨t, e⟩ := IntsAre.int_at hi i v (by rw [Array.getElem?_toList]; exact hv)
    have : ns.getD i 0 = k := by rw [List.getD_eq_getElem?_getD, hk]; rfl
    exact ⟨t, this ▸ e⟩
  · obtain ⟨h', g', d', tk', os'⟩ := s'
    have eg : g' = s.gens := hm.gens
    have ed : d' = s.drawn := hm.drawn
    have eo : os' = s.os := hm.os
    subst eg ed eo
    refine wpAny_pure (h h' tk' ks hS' hks fun b o hb e => hm.heap b o ?_ (Heap.get?_push_of_some _ e))
    simp [hb, Nat.ne_of_lt (Heap.lt_size e)]
theorem set_call {l : Addr} {items : Array Value} {ns : List Int} {Q : Value → Shared → Prop} (hh : A.handled = none) (hl : s.heap.IsList l items) (hi : IntsAre items.toList ns) (hb : ∀ k ∈ ns, 0 ≤ k ∧ k < 50)
    (h : ∀ h' tk ks, IsS w h' s.heap.objs.size ks → (∀ k, k ∈ ks ↔ k ∈ ns) → (∀ b o, s.heap.get? b = some o → h'.get? b = some o) → Q (.ref s.heap.objs.size) { s with heap := h', toks := tk }) :
    wpAny (model prog w) A (call (.type "set") [.ref l]) Q E s := by
  have hlz : l < s.heap.objs.size := let ⟨_, ho, _⟩ := hl; Heap.lt_size ho
  obtain ⟨c, tl, hmro⟩ := F.called_set.mro
  have hmade := F.called_set.made; have hsub := F.called_set.sub
  refine wpAny_call (codeAny_of_tree ?_); show wpAny _ _ (callAny (.type "set") _) _ _ _
  refine wpAny_pure ⟨Code.quiet_builtin _ (by decide +kernel), codeAny_builtin F.entry_type_call ?_⟩; rw [Around.under_plain (weight_type_call_type "set" [.ref l] []) rfl]
  have h1 := F.called_set.notType; have h2 := F.called_set.canCreate; have hct := F.typeCall_set_1 (.ref l)
  repeat (any_goals (first | assumption | wp_step))
  refine codeAny_mono (new_code (.ref l) (E := E) (Q₁ := fun obj s₁ => obj = .ref s.heap.objs.size ∧ s₁ = { s with heap := s.heap.push (newS w) }) ⟨rfl, rfl⟩) fun r s₁ hr => ?_
  cases r with
  | error e => exact hr
  | ok fl =>
    cases fl with
    | ret obj =>
      obtain ⟨rfl, rfl⟩ := hr
      have hS : (s.heap.push (newS w)).get? s.heap.objs.size = some (newS w) := Heap.get?_push_size _ rfl
      have hT : Shared.TypeIs { s with heap := s.heap.push (newS w) } (.ref s.heap.objs.size) "set" := ⟨_, hS, rfl⟩
      have hli := F.called_set.init.lookup; have hbi := F.called_set.init.bind (.ref s.heap.objs.size)
      repeat (any_goals (first | assumption | wp_step))
      refine codeAny_mono (codeAny_call_builtin (R := wants (fun r s₂ => r = .none ∧ ∃ h' tk ks, s₂ = { s with heap := h', toks := tk } ∧ IsS w h' s.heap.objs.size ks ∧ (∀ k, k ∈ ks ↔ k ∈ ns) ∧ (∀ b o, s.heap.get? b = some o → h'.get? b = some o)) E) F.called_set.init.plain F.entry_set_init (check_set_init_1 hT ?_)) fun r₂ s₂ hr₂ => ?_
      · have hset := fresh_at hS
        have hlP : (s.heap.push (newS w)).IsList l items := hl.push _
        unfold Builtin.«set.__init__» noKeywords
        generalize hU : Builtin.Frozenset.updateFrom = U
        have hdS : newS w = { cls := .type "set", dict := none, data := .set #[] 0 (.fresh 0 0 (Ld w)) } := rfl
        rw [hdS] at hS
        wp_walk
        subst hU
        refine upd_wp (s := { s with heap := s.heap.push (newS w) }) (by simpa using hh) hlP hi hb (Nat.ne_of_lt hlz) ⟨_, _, _, hset⟩ fun h' tk ks a1 a2 a3 => ?_
        refine wpAny_pure ⟨rfl, h', tk, ks, rfl, a1, a2, fun b o e => a3 b o (Nat.ne_of_lt (Heap.lt_size e)) (Heap.get?_push_of_some _ e)⟩
      · cases r₂ with
        | error e => exact hr₂
        | ok fl₂ =>
          cases fl₂ with
          | ret r =>
            obtain ⟨rfl, h', tk, ks, rfl, a1, a2, a3⟩ := hr₂
            repeat (any_goals (first | assumption | wp_step))
            exact h _ _ _ a1 a2 a3
          | _ => exact hr₂.elim
    | _ => exact hr.elim
end
end ST
set_option maxHeartbeats 1000000
namespace ST
open PySem PySem.W PyProof.Rows
section
variable {prog : Program} {w : World} {A : Around} {E : Value → Shared → Prop} {s : Shared} {a : Addr} {ks : List Int} {es : Array (Int × Value)} {ep : Nat} {t : SetTable}
theorem SetAt.fill (S : SetAt w s.heap a ks es ep t) : t.fill = es.size := by
  unfold SetTable.fill; rw [S.good.size, S.good.dum]; rfl
theorem store_wp {es' : Array (Int × Value)} {t' : SetTable} {Q : Unit → Shared → Prop} (S : SetAt w s.heap a ks es ep t) (p : es'.toList.Perm es.toList) (g : Good (Ld w) t' es'.size)
    (h : ∀ h', Heap.SameBut a s.heap h' → SetAt w h' a ks es' (ep + 1) t' → Q () { s with heap := h' }) : wpAny (model prog w) A (storeSet a es' t') Q E s := by
  have hz : es'.size = es.size := by rw [← Array.length_toList, p.length_eq, Array.length_toList]
  refine wpAny_storeSet_of S.get rfl ?_ (line_ok (by have := S.le; omega))
  exact h _ (Heap.SameBut.update ..) ⟨put_set S.get es' t', S.sm.perm p, (p.map _).trans S.perm, S.nd, g⟩
theorem relay_wp {wanted : Nat} {Q : Unit → Shared → Prop} (S : SetAt w s.heap a ks es ep t) (hw : es.size * 2 ≤ wanted) (hw' : wanted < 256)
    (h : ∀ h' es' ep' t', Heap.SameBut a s.heap h' → SetAt w h' a ks es' ep' t' → wanted ≤ t'.mask → Q () { s with heap := h' }) : wpAny (model prog w) A (setRelay a wanted) Q E s := by
  obtain ⟨t', o, e1, g1, p1, _, m1⟩ := relay_ok (n := 0) S.good.led S.good.plain S.sm hw hw'
  obtain ⟨_, q2, q3⟩ := size_above hw'
  have hz : (o.filterMap (es[·]?)).size = es.size := by rw [← Array.length_toList, p1.length_eq, Array.length_toList]
  unfold setRelay
  refine wpAny_bind (state_wp S ?_); dsimp only
  refine wpAny_ite_split (fun hab => absurd hab (by rw [sizeLine_eq]; omega)) (fun _ => ?_)
  rw [e1]
  refine wpAny_bind (wpAny_ite_split (fun hab => absurd hab (by rw [hz]; simp)) (fun _ => wpAny_pure ?_)); dsimp only
  exact store_wp S p1 (hz ▸ g1) fun h' sb S' => h h' _ _ _ sb S' (by rw [m1]; exact q2)
theorem roomFor_wp {n : Nat} {Q : Unit → Shared → Prop} (S : SetAt w s.heap a ks es ep t) (hn : n ≤ 50)
    (h : ∀ h' es' ep' t', Heap.SameBut a s.heap h' → SetAt w h' a ks es' ep' t' → (es'.size + n) * 5 < t'.mask * 3 → Q () { s with heap := h' }) : wpAny (model prog w) A (setRoomFor a n) Q E s := by
  have hle := S.le
  unfold setRoomFor
  refine wpAny_bind (state_wp S ?_); dsimp only
  unfold SetTable.roomFor
  rw [S.fill, S.good.size]
  by_cases hc : (es.size + n) * 5 ≥ t.mask * 3
  · rw [if_pos hc]
    have h7 : 7 ≤ t.mask := by
      have : ∀ m ∈ masks, 7 ≤ m := by decide
      exact this _ S.good.mask
    refine relay_wp S (by omega) (by omega) fun h' es' ep' t' sb S' hm => h h' es' ep' t' sb S' ?_
    have : es'.size = es.size := by rw [S'.len, S.len]
    omega
  · rw [if_neg hc]
    exact wpAny_pure (h s.heap es ep t (Heap.SameBut.refl _ _) S (by omega))
theorem unseen_wp {os : List Addr} {f : Option Addr} {Q : Array (Int × Value) → Shared → Prop} (S : SetAt w s.heap a ks es ep t) (h : Q (order w a ep es) s) : wpAny (model prog w) A (setWalkUnseen a os f) Q E s := by
  unfold setWalkUnseen
  refine wpAny_bind (state_wp S ?_); dsimp only
  refine wpAny_bind (text_wp ?_)
  refine wpAny_ite_split (fun _ => walk_wp S h) (fun hab => absurd ?_ hab)
  rw [S.good.led, S.good.plain]
  unfold Ld
  cases w.params.followText "set-order" <;> rfl
theorem each_loop {b : Addr} {kb : List Int} {eb : Array (Int × Value)} {epb : Nat} {tb : SetTable} (hab : a ≠ b) {each : Sem Unit} (heach : ∀ (s : Shared) (Q : Unit → Shared → Prop), SetAt w s.heap b kb eb epb tb → Q () s → wpAny (model prog w) A each Q E s) :
    ∀ (l : List (Int × Value)) (s : Shared) (ks : List Int) {Q : PUnit → Shared → Prop}, (∀ e ∈ l, (0 ≤ e.1 ∧ e.1 < 50) ∧ ∃ tk, e.2 = .int e.1 tk) → IsS w s.heap a ks → SetAt w s.heap b kb eb epb tb →
      (∀ h' ks', Heap.SameBut a s.heap h' → IsS w h' a ks' → (∀ k, k ∈ ks' ↔ k ∈ ks ∨ k ∈ l.map (·.1)) → Q ⟨⟩ { s with heap := h' }) →
      wpAny (model prog w) A (forIn l PUnit.unit fun (p : Int × Value) _ => do
        let _ ← holding [p.2] (setAddHashed a p.2 p.1)
        each
        if (← setState b).2.1 != epb then unsupported "set.changed-during-merge"
        pure (ForInStep.yield PUnit.unit)) Q E s
  | [], s, ks, Q, _, hS, hb, h => by
    rw [List.forIn_nil]
    exact wpAny_pure (h s.heap ks (Heap.SameBut.refl _ _) hS fun k => by simp)
  | e :: l, s, ks, Q, hl, hS, hb, h => by
    obtain ⟨⟨b0, b1⟩, tk, e2⟩ := hl e (by simp)
    obtain ⟨k, v⟩ := e
    dsimp only at b0 b1 e2
    subst e2
    rw [List.forIn_cons]
    refine wpAny_bind (wpAny_bind (wpAny_holding (add_wp hS b0 b1 fun r h1 sb1 hS1 => ?_)))
    have hb1 : SetAt w h1 b kb eb epb tb := hb.at fun o ho => by rw [sb1.2 b (Ne.symm hab)]; exact ho
    refine wpAny_bind (heach { s with heap := h1 } _ hb1 (wpAny_bind (state_wp (s := { s with heap := h1 }) hb1 ?_))); dsimp only
    refine wpAny_ite_split (fun hne => absurd hne (by simp)) (fun _ => wpAny_pure ?_); dsimp only
    refine each_loop hab heach l { s with heap := h1 } _ (fun e he => hl e (by simp [he])) hS1 hb1 fun h' ks' sb hS' hm => h h' ks' (sb1.trans sb) hS' fun x => ?_
    rw [hm x, List.map_cons, List.mem_cons]
    split
    · rename_i hin
      constructor
      · rintro (g | g)
        · exact .inl g
        · exact .inr (.inr g)
      · rintro (g | g | g)
        · exact .inl g
        · subst g; exact .inl hin
        · exact .inr g
    · rw [List.mem_append]
      simp [or_assoc]
theorem merge_wp {b : Addr} {kb : List Int} {each : Sem Unit} {Q : Unit → Shared → Prop} (hab : a ≠ b) (hS : IsS w s.heap a ks) {eb : Array (Int × Value)} {epb : Nat} {tb : SetTable} (B : SetAt w s.heap b kb eb epb tb)
    (heach : ∀ (s : Shared) (Q : Unit → Shared → Prop), SetAt w s.heap b kb eb epb tb → Q () s → wpAny (model prog w) A each Q E s)
    (h : ∀ h' ks', Heap.SameBut a s.heap h' → IsS w h' a ks' → (∀ k, k ∈ ks' ↔ k ∈ ks ∨ k ∈ kb) → Q () { s with heap := h' }) : wpAny (model prog w) A (setMerge a b each) Q E s := by
  obtain ⟨es, ep, t, S⟩ := hS
  have hbl := B.le
  have hkb : ∀ {l : List (Int × Value)}, l.Perm eb.toList → ∀ k, k ∈ l.map (·.1) ↔ k ∈ kb := fun p k => ((p.map _).trans B.perm).mem_iff
  unfold setMerge
  refine wpAny_ite_split (fun e => absurd (eq_of_beq e) hab) (fun _ => ?_)
  refine wpAny_bind (state_wp B ?_); dsimp only
  refine wpAny_ite_split (fun e => ?_) (fun hne => ?_)
  · have hz : eb.size = 0 := by simpa using e
    have hk : kb = [] := by
      have := B.len
      rw [hz] at this
      exact List.length_eq_zero_iff.1 this.symm
    exact wpAny_pure (h s.heap ks (Heap.SameBut.refl _ _) ⟨es, ep, t, S⟩ fun k => by simp [hk])
  refine wpAny_bind (roomFor_wp S hbl fun h1 es1 ep1 t1 sb1 S1 hroom => ?_)
  have B1 : SetAt w h1 b kb eb epb tb := B.at fun o ho => by rw [sb1.2 b (Ne.symm hab)]; exact ho
  refine wpAny_bind (state_wp (s := { s with heap := h1 }) S1 ?_); dsimp only
  have hf : t1.fill = es1.size := SetAt.fill (s := { s with heap := h1 }) S1
  unfold SetTable.road
  rw [hf]
  by_cases hz : es1.size = 0
  · have hk : ks = [] := by
      have := S1.len
      rw [hz] at this
      exact List.length_eq_zero_iff.1 this.symm
    have fin : ∀ (es2 : Array (Int × Value)) (t2 : SetTable), es2.toList.Perm eb.toList → Good (Ld w) t2 es2.size → wpAny (model prog w) A (storeSet a es2 t2) Q E { s with heap := h1 } := fun es2 t2 p g => by
      have hz2 : es2.size = eb.size := by rw [← Array.length_toList, p.length_eq, Array.length_toList]
      refine wpAny_storeSet_of S1.get rfl ?_ (line_ok (by omega))
      refine h _ kb (sb1.trans (Heap.SameBut.update ..)) ⟨es2, _, t2, put_set S1.get es2 t2, B.sm.perm p, (p.map _).trans B.perm, B.nd, g⟩ fun k => by simp [hk]
    rw [if_neg (by simp [hz])]
    by_cases hm : (t1.mask == tb.mask && tb.dummies.isEmpty) = true
    · rw [if_pos hm]; dsimp only
      exact fin eb _ (List.Perm.refl _) ⟨by rw [S1.good.led, B.good.led]; simp, by rw [S1.good.plain, B.good.plain]; rfl, B.good.dum, B.good.size, B.good.ris, B.good.mask, B.good.few⟩
    · rw [if_neg hm]; dsimp only
      rw [S1.good.led, S1.good.plain, B.good.led, B.good.plain, Bool.and_self, Bool.and_self]
      obtain ⟨t', o, e1, g1, p1, _, m1⟩ := laid_es (L := Ld w) (f := t1.finger) (mv := t1.moves) S1.good.mask (es := eb) (by omega) B.sm
      have hz3 : (o.filterMap (eb[·]?)).size = eb.size := by rw [← Array.length_toList, p1.length_eq, Array.length_toList]
      rw [e1]
      refine wpAny_bind (wpAny_ite_split (fun hab => absurd hab (by rw [hz3]; simp)) (fun _ => wpAny_pure ?_)); dsimp only
      exact fin _ _ p1 (hz3 ▸ g1)
  · rw [if_pos (by simp [hz])]
    dsimp only
    refine wpAny_bind (unseen_wp (s := { s with heap := h1 }) B1 ?_)
    have hp := order_perm w b epb eb
    rw [← Array.forIn_toList]
    refine wpAny_bind (each_loop hab heach (order w b epb eb).toList { s with heap := h1 } ks (fun e he => B.sm e (hp.mem_iff.1 he)) ⟨es1, ep1, t1, S1⟩ B1 fun h' ks' sb hS' hm => wpAny_pure ?_)
    exact h h' ks' (sb1.trans sb) hS' fun k => by rw [hm k, hkb hp k]
theorem isSet_wp {Q : Bool → Shared → Prop} (hT : s.TypeIs (.ref a) "set") (h : Q true s) : wpAny (model prog w) A (Builtin.Frozenset.isAnySet (.ref a)) Q E s := by
  unfold Builtin.Frozenset.isAnySet
  exact wpAny_bind (wpAny_isInstance hT sub_set_self (wpAny_pure h))
theorem copy_wp {Q : Value → Shared → Prop} (hS : IsS w s.heap a ks)
    (h : ∀ h' ks', IsS w h' s.heap.objs.size ks' → (∀ k, k ∈ ks' ↔ k ∈ ks) → h'.objs.size = s.heap.objs.size + 1 → (∀ b o, s.heap.get? b = some o → h'.get? b = some o) → Q (.ref s.heap.objs.size) { s with heap := h' }) :
    wpAny (model prog w) A (Builtin.Frozenset.copyOf a) Q E s := by
  obtain ⟨es, ep, t, S⟩ := hS
  have hlt := Heap.lt_size S.get
  have hne : s.heap.objs.size ≠ a := Nat.ne_of_gt hlt
  unfold Builtin.Frozenset.copyOf Builtin.Frozenset.baseOf
  refine wpAny_bind (wpAny_bind (wpAny_isInstance S.typeIs sub_set_self (wpAny_pure ?_)))
  refine wpAny_bind (newSet_wp ?_)
  refine wpAny_bind (wpAny_pure ?_)
  have S' : SetAt w (s.heap.push (newS w)) a ks es ep t := S.at fun o e => Heap.get?_push_of_some _ e
  refine wpAny_bind (merge_wp (s := { s with heap := s.heap.push (newS w) }) hne ⟨_, _, _, fresh_at (Heap.get?_push_size _ rfl)⟩ S' (fun s Q _ hq => wpAny_pure hq) fun h' ks' sb hS' hm => wpAny_pure ?_)
  exact h h' ks' hS' (fun k => by rw [hm k]; simp) (by rw [sb.1, Heap.size_push]) fun b o e => by rw [sb.2 b (Nat.ne_of_lt (Heap.lt_size e))]; exact Heap.get?_push_of_some _ e
theorem entry_set_or : entryFor table "set.__or__" = some Builtin.«frozenset.__or__» := entryFor_alias (id' := "frozenset.__or__") (by kernel_rfl) rfl (by decide +kernel) (by kernel_rfl)
theorem or_call {b : Addr} {kb : List Int} {Q : Value → Shared → Prop} (hab : a ≠ b) (hA : IsS w s.heap a ks) (hB : IsS w s.heap b kb)
    (h : ∀ h' ks', IsS w h' s.heap.objs.size ks' → (∀ k, k ∈ ks' ↔ k ∈ ks ∨ k ∈ kb) → (∀ b o, s.heap.get? b = some o → h'.get? b = some o) → Q (.ref s.heap.objs.size) { s with heap := h' }) :
    wpAny (model prog w) A (binaryOp .BitOr (.ref a) (.ref b)) Q E s := by
  have hTa : s.TypeIs (.ref a) "set" := let ⟨_, _, _, x⟩ := hA; x.typeIs
  have hTb : s.TypeIs (.ref b) "set" := let ⟨_, _, _, x⟩ := hB; x.typeIs
  have hbz : b < s.heap.objs.size := let ⟨_, _, _, x⟩ := hB; Heap.lt_size x.get
  refine wpAny_binaryOp_same (op := .BitOr) hTa hTb PySem.F.fills_set_or PySem.F.slot_set_or (wpAny_call_entry PySem.F.slot_set_or hTa entry_set_or ?_ (PySem.F.args_set_or_2 _ _))
  unfold Builtin.«frozenset.__or__»
  refine wpAny_bind (m := Builtin.Frozenset.slot1 "__or__" _) (wpAny_bind (m := slotArgs "__or__" 1 _) (wpAny_pure (wpAny_pure ?_)))
  refine wpAny_bind (wpAny_bind (isSet_wp hTa (isSet_wp hTb ?_)))
  refine wpAny_ite_split (fun hne => absurd hne (by decide)) (fun _ => ?_)
  refine wpAny_bind (wpAny_pure ?_)
  refine wpAny_bind (wpAny_bind (copy_wp hA fun h1 k1 hS1 hm1 hz1 hk1 => ?_))
  have hB1 : IsS w h1 b kb := let ⟨es, ep, t, x⟩ := hB; ⟨es, ep, t, x.at fun o e => hk1 b o e⟩
  refine wpAny_ite_split (fun _ => ?_) (fun hne => absurd (by simpa using Ne.symm hab) hne)
  refine wpAny_bind (wpAny_pure (wpAny_bind (wpAny_holding ?_)))
  unfold Builtin.Frozenset.updateFrom
  have hTb1 : Shared.TypeIs { s with heap := h1 } (.ref b) "set" := let ⟨_, _, _, x⟩ := hB1; ⟨_, x.get, rfl⟩
  refine wpAny_bind (isSet_wp hTb1 ?_)
  refine wpAny_ite_split (fun _ => ?_) (fun hne => absurd rfl hne)
  refine wpAny_bind (wpAny_pure ?_)
  obtain ⟨eb, epb, tb, B1⟩ := hB1
  unfold Builtin.Frozenset.merge
  refine wpAny_bind (wpAny_setEpoch_of (s := { s with heap := h1 }) B1.get rfl B1.good.fits ?_)
  refine merge_wp (s := { s with heap := h1 }) (Nat.ne_of_gt hbz) hS1 B1 (fun s' Q' hb' hq => ?_) fun h' ks' sb hS' hm => ?_
  · unfold Builtin.Frozenset.unchanged
    refine wpAny_bind (wpAny_setEpoch_of hb'.get rfl hb'.good.fits (wpAny_ite_split (fun hne => absurd hne (by simp)) (fun _ => wpAny_pure hq)))
  · refine wpAny_pure (wpAny_pure ⟨_, rfl, by simp, h h' ks' hS' (fun k => by rw [hm k, hm1 k]) fun c o e => ?_⟩)
    rw [sb.2 c (Nat.ne_of_lt (Heap.lt_size e))]; exact hk1 c o e
end
end ST
namespace L2
open PySem PySem.Spec PyProof.Rows
def setAt (w : World) (a : Addr) (ns : List Int) : Heap → Prop := fun h => ∃ ks, ST.IsS w h a ks ∧ ∀ k, k ∈ ks ↔ k ∈ ns
theorem setAt.small {w : World} {a : Addr} {ns : List Int} {h : Heap} (s : setAt w a ns h) : ∀ k ∈ ns, 0 ≤ k ∧ k < 50 := fun k hk => let ⟨_, ⟨_, _, _, x⟩, hm⟩ := s; x.small k ((hm k).2 hk)
theorem setAt.ok {P : Program} {w : World} {a : Addr} {ns : List Int} {h : Heap} {H : Hp} (s : setAt w a ns h) : ObjOk P w H h a (.ext (setAt w a ns)) :=
  ⟨s, let ⟨_, ⟨_, _, _, x⟩, _⟩ := s; ⟨_, x.get⟩, fun h1 h2 ⟨ks, ⟨es, ep, t, x⟩, hm⟩ hk => ⟨ks, ⟨es, ep, t, x.at hk⟩, hm⟩⟩
section
variable {X : Cx} {K : PySem.W.Frag}
def rSet (K : PySem.W.Frag) (w : World) : List V → Hp → VK → Prop := fun xs H Q => ∃ (p : Addr) (ns : List Int), xs = [.ref p] ∧ SqL K H p (ns.map V.int) ∧ (∀ n ∈ ns, 0 ≤ n ∧ n < 50) ∧ ∀ S, H S = none → Q (.ref S) (upd H S (.ext (setAt w S ns)))
theorem call_set (hc : X.calm = true) : CallR X (.type "set") (rSet X.K X.w) := by
  intro pins s σ H xs us Q I r h
  obtain ⟨p, ns, rfl, hp, hb, q⟩ := h
  obtain ⟨u, rfl, ru⟩ := vals1 r
  obtain rfl : u = Value.ref p := ru
  obtain ⟨its, rv, pl, hz⟩ := I.list hp
  refine ST.set_call (ns := ns) (I.ok.hd hc) pl.isList (by simpa using intsAre_of' rv) hb fun h' tk ks hS hm hk => ?_
  have hn : H s.heap.objs.size = none := I.hok.fresh (Nat.le_refl _)
  exact ⟨.ref _, upd H s.heap.objs.size (.ext (setAt X.w s.heap.objs.size ns)), I.laid (t' := tk) hk (Nat.le_refl _) (setAt.ok ⟨ks, hS, hm⟩), rfl, q _ hn⟩
def rOr (w : World) : R2 := fun x y H Q => ∃ (a b : Addr) (na nb : List Int), x = .ref a ∧ y = .ref b ∧ a ≠ b ∧ H a = some (.ext (setAt w a na)) ∧ H b = some (.ext (setAt w b nb)) ∧ ∀ S, H S = none → Q (.ref S) (upd H S (.ext (setAt w S (na ++ nb))))
theorem op_setOr : OpR X (binaryOp .BitOr) (rOr X.w) := by
  intro pins s σ H x y v u Q I rx ry h
  obtain ⟨a, b, na, nb, rfl, rfl, hab, ha, hb, q⟩ := h
  cases rx
  cases ry
  obtain ⟨ka, sa, ma⟩ := (show ObjOk X.prog X.w H s.heap a (.ext (setAt X.w a na)) from I.hok _ _ ha).1
  obtain ⟨kb, sb, mb⟩ := (show ObjOk X.prog X.w H s.heap b (.ext (setAt X.w b nb)) from I.hok _ _ hb).1
  refine ST.or_call hab sa sb fun h' ks hS hm hk => ?_
  have hn : H s.heap.objs.size = none := I.hok.fresh (Nat.le_refl _)
  exact ⟨.ref _, upd H s.heap.objs.size (.ext (setAt X.w s.heap.objs.size (na ++ nb))), I.laid (t' := s.toks) hk (Nat.le_refl _) (setAt.ok ⟨ks, hS, fun k => by rw [hm k, ma k, mb k, List.mem_append]⟩), rfl, q _ hn⟩
def upTo (ns : List Int) : List Int := ST.canon fun k => decide (k ∈ ns)
def rSortSet (w : World) : List V → Hp → VK → Prop := fun xs H Q => ∃ (a : Addr) (ns : List Int), xs = [.ref a] ∧ H a = some (.ext (setAt w a ns)) ∧ ∀ l, H l = none → Q (.ref l) (upd H l (.lst ((upTo ns).map V.int)))
theorem upTo_len (ns : List Int) : (upTo ns).length ≤ 50 := Nat.le_trans (List.length_filter_le _ _) (by decide)
theorem call_sortSet (hc : X.calm = true) : CallR X (.builtin "sorted") (rSortSet X.w) := by
  intro pins s σ H xs us Q I r h
  obtain ⟨a, ns, rfl, ha, q⟩ := h
  obtain ⟨u, rfl, ru⟩ := vals1 r
  obtain rfl : u = Value.ref a := ru
  have hset := (show ObjOk X.prog X.w H s.heap a (.ext (setAt X.w a ns)) from I.hok _ _ ha).1
  have hsm := hset.small
  obtain ⟨ks, S, hm⟩ := hset
  refine ST.sorted_set (I.ok.hd hc) S fun h' tk D out ns' c hk hD h2 h3 h4 hg => ?_
  have e : ns' = upTo ns := by
    obtain ⟨es, ep, t, x⟩ := S
    refine ST.canon_sorted h4 h3 x.nd x.small fun k => ?_
    rw [decide_eq_true_eq, hm k]
    exact ⟨fun z => ⟨hsm k z, z⟩, fun z => z.2⟩
  subst e
  have hDn := I.none_at hD
  refine ⟨.ref D, upd H D (.lst ((upTo ns).map V.int)), I.laids hk (same_new hDn _) fun b u e => ?_, rfl, q D hDn⟩
  by_cases hb : b = D
  · subst hb
    rw [upd_same] at e
    cases e
    refine .inr ⟨hD, ⟨?_, out.toList, c, vals_intsM h2, by simpa using hg⟩⟩
    rw [List.length_map, sizeLine_eq]
    have := upTo_len ns
    omega
  · rw [upd_ne hb] at e; exact .inl e
def smallM (ns : List Int) : Bool := ns.all fun n => decide (0 ≤ n) && decide (n < 50)
theorem smallM_of {ns : List Int} (h : smallM ns = true) : ∀ n ∈ ns, 0 ≤ n ∧ n < 50 := fun n hn => by
  have := List.all_eq_true.1 h n hn
  simpa using this
def setM (h : HpM) (x : M) : Option (List Int) := (seqR h x).bind fun xs => (intsM xs).bind fun ns => if smallM ns = true then some ns else none
theorem setM_rep {α : Pl} {h : HpM} {H : Hp} {m : M} {v : V} {ns : List Int} (hr : Rl K α h H) (rm : RepA K α H m v) (e : setM h m = some ns) : ∃ p, v = .ref p ∧ SqL K H p (ns.map V.int) ∧ ∀ n ∈ ns, 0 ≤ n ∧ n < 50 := by
  obtain ⟨xs, e1, e⟩ := Option.bind_eq_some_iff.mp e
  obtain ⟨ns', e2, e⟩ := Option.bind_eq_some_iff.mp e
  split at e
  · rename_i hs
    cases e
    obtain ⟨p, vs, rfl, sq, rs⟩ := seqR_rep hr rm e1
    rw [intsM_rep e2 rs] at sq
    exact ⟨p, rfl, sq, smallM_of hs⟩
  · cases e
def opSet1 (x : M) (h : HpM) : Option M := (setM h x).bind fun a => some (.lst ((upTo a).map M.int))
def mSetU (a b : FE) : FE := fun ρ h => bnd (a ρ h) fun x h1 => (setM h1 x).bind fun na => bnd (b ρ h1) fun y h2 => (setM h2 y).bind fun nb => some (.lst ((upTo (na ++ nb)).map M.int), h2)
variable {a b : Expr} {ma mb : FE} {p1 p2 p3 pos1 pos2 pos3 pos4 : Pos}
theorem me_sortU (hc : X.calm = true) (q1 : NmOk X.env.scope "sorted" .globalImplicit) (m1 : X.mg "sorted" = none) (q2 : NmOk X.env.scope "set" .globalImplicit) (m2 : X.mg "set" = none) (ha : PE X a (tM X.K ma)) (hb : PE X b (tM X.K mb)) (sa : notStar a = true) (sb : notStar b = true) :
    PE X (.Call (.Name "sorted" p1) [.BinOp (.Call (.Name "set" p2) [a] [] pos2) .BitOr (.Call (.Name "set" p3) [b] [] pos3) pos4] [] pos1) (tM X.K (mSetU ma mb)) :=
  (pe_callBk (call_sortSet hc) q1 m1 PyProof.Rows.boot_sorted (pa_c (pe_op op_setOr (pe_callTyk (call_set hc) q2 m2 (by rfl) (pa_c ha pa_nil sa) sa (by rfl)) (pe_callTyk (call_set hc) q2 m2 (by rfl) (pa_c hb pa_nil sb) sb (by rfl))) pa_nil (by rfl)) (by rfl) (by rfl)).imp fun σ H Q ⟨α, ρ, h, d, h', hσ, hr, e, k⟩ => by
  obtain ⟨x, h1, e1, e⟩ := bnd_inv e
  obtain ⟨na, e2, e⟩ := Option.bind_eq_some_iff.mp e
  obtain ⟨y, h2, e3, e⟩ := bnd_inv e
  obtain ⟨nb, e4, e⟩ := Option.bind_eq_some_iff.mp e
  cases e
  refine ⟨α, ρ, h, x, h1, hσ, hr, e1, fun α1 H1 u ev1 hr1 rx => ?_⟩
  obtain ⟨p, rfl, sp, bp⟩ := setM_rep hr1 rx e2
  refine ⟨p, na, rfl, sp, bp, fun S hS => ?_⟩
  have s1 : Same H1 (upd H1 S (.ext (setAt X.w S na))) := same_new hS _
  refine ⟨α1, ρ, h1, y, _, (hσ.ev ev1).ev (.same s1), hr1.same s1, e3, fun α2 H2 v ev2 hr2 ry => ?_⟩
  obtain ⟨q, rfl, sq, bq⟩ := setM_rep hr2 ry e4
  have hS2 : H2 S = some (.ext (setAt X.w S na)) := ev2.keep S _ upd_same (.inl trivial) (hr1.newA hS)
  refine ⟨q, nb, rfl, sq, bq, fun T hT => ?_⟩
  have s2 : Same H2 (upd H2 T (.ext (setAt X.w T nb))) := same_new hT _
  have hne : S ≠ T := fun z => by rw [z, hT] at hS2; cases hS2
  refine ⟨S, T, na, nb, rfl, rfl, hne, s2 _ _ hS2, upd_same, fun U hU => ?_⟩
  have s3 : Same (upd H2 T (.ext (setAt X.w T nb))) (upd (upd H2 T (.ext (setAt X.w T nb))) U (.ext (setAt X.w U (na ++ nb)))) := same_new hU _
  refine ⟨U, na ++ nb, rfl, upd_same, fun l hl => ?_⟩
  have hr3 := (hr2.same s2).same s3
  exact k α2 _ _ (((ev1.trans (.same s1)).trans ev2).trans (.same ((s2.trans s3).trans (same_new hl _)))) (hr3.same (same_new hl _)) (laidL hr3 hl RepAs.ints)
theorem me_sort1 (hc : X.calm = true) (q1 : NmOk X.env.scope "sorted" .globalImplicit) (m1 : X.mg "sorted" = none) (q2 : NmOk X.env.scope "set" .globalImplicit) (m2 : X.mg "set" = none) (ha : PE X a (tM X.K ma)) (sa : notStar a = true) :
    PE X (.Call (.Name "sorted" p1) [.Call (.Name "set" p2) [a] [] pos2] [] pos1) (tM X.K (mUn opSet1 ma)) :=
  (pe_callBk (call_sortSet hc) q1 m1 PyProof.Rows.boot_sorted (pa_c (pe_callTyk (call_set hc) q2 m2 (by rfl) (pa_c ha pa_nil sa) sa (by rfl)) pa_nil (by rfl)) (by rfl) (by rfl)).imp fun σ H Q ⟨α, ρ, h, d, h', hσ, hr, e, k⟩ => by
  obtain ⟨x, h1, e1, e⟩ := bnd_inv e
  obtain ⟨e3, e4⟩ := map_inv e
  dsimp only at e3 e4
  subst e4
  obtain ⟨na, e2, e⟩ := Option.bind_eq_some_iff.mp e3
  cases e
  refine ⟨α, ρ, h, x, _, hσ, hr, e1, fun α1 H1 u ev1 hr1 rx => ?_⟩
  obtain ⟨p, rfl, sp, bp⟩ := setM_rep hr1 rx e2
  refine ⟨p, na, rfl, sp, bp, fun S hS => ?_⟩
  have s1 : Same H1 (upd H1 S (.ext (setAt X.w S na))) := same_new hS _
  refine ⟨S, na, rfl, upd_same, fun l hl => ?_⟩
  have hr3 := hr1.same s1
  exact k α1 _ _ (ev1.trans (.same (s1.trans (same_new hl _)))) (hr3.same (same_new hl _)) (laidL hr3 hl RepAs.ints)
end
section
variable {R : M → HpM → Prop} {ρ : EnvM} {h : HpM} {ma mb : FE}
theorem mem_upTo {ns : List Int} {k : Int} : k ∈ upTo ns ↔ (0 ≤ k ∧ k < 50) ∧ k ∈ ns := by
  unfold upTo; rw [ST.mem_canon, decide_eq_true_eq]
theorem setM_lst {ns : List Int} (hb : ∀ n ∈ ns, 0 ≤ n ∧ n < 50) {h : HpM} : setM h (.lst (ns.map M.int)) = some ns := by
  unfold setM
  show (some (ns.map M.int)).bind _ = _
  rw [Option.bind_some, intsM_map, Option.bind_some, if_pos]
  exact List.all_eq_true.2 fun n hn => by simpa using hb n hn
theorem e_setU (q : Ens (ma ρ h) fun x h1 => ∃ na, setM h1 x = some na ∧ Ens (mb ρ h1) fun y h2 => ∃ nb, setM h2 y = some nb ∧ R (.lst ((upTo (na ++ nb)).map M.int)) h2) : Ens (mSetU ma mb ρ h) R := .bnd (q.mono fun x h1 q => by
  obtain ⟨na, e, q⟩ := q
  show Ens ((setM h1 x).bind _) R
  rw [e, Option.bind_some]
  exact .bnd (q.mono fun y h2 q => by
    obtain ⟨nb, e, q⟩ := q
    show Ens ((setM h2 y).bind _) R
    rw [e, Option.bind_some]
    exact .ret q))
end
end L2
set_option maxHeartbeats 1000000
namespace ST
open PySem PySem.W PyProof.Rows
theorem slot_rv_next : Slot "reversed" "__next__" "reversed.__next__" := .of (owner := "reversed") (n := "__next__")
  (by rw [typeLookup_type, builtinLookup_eq_fast]; kernel_rfl) (by decide +kernel) (by decide +kernel) (by decide +kernel) (by first | exact .inl (by decide +kernel) | exact .inr (by decide +kernel)) (by rw [isSubtype_type]; kernel_rfl)
theorem slot_rv_iter : Slot "reversed" "__iter__" "reversed.__iter__" := .of (owner := "reversed") (n := "__iter__")
  (by rw [typeLookup_type, builtinLookup_eq_fast]; kernel_rfl) (by decide +kernel) (by decide +kernel) (by decide +kernel) (by first | exact .inl (by decide +kernel) | exact .inr (by decide +kernel)) (by rw [isSubtype_type]; kernel_rfl)
theorem slot_rv_hint : Slot "reversed" "__length_hint__" "reversed.__length_hint__" := .of (owner := "reversed") (n := "__length_hint__")
  (by rw [typeLookup_type, builtinLookup_eq_fast]; kernel_rfl) (by decide +kernel) (by decide +kernel) (by decide +kernel) (by first | exact .inl (by decide +kernel) | exact .inr (by decide +kernel)) (by rw [isSubtype_type]; kernel_rfl)
theorem slot_rv_init : Slot "reversed" "__init__" "object.__init__" := .of (owner := "object") (n := "__init__")
  (by rw [typeLookup_type, builtinLookup_eq_fast]; kernel_rfl) (by decide +kernel) (by decide +kernel) (by decide +kernel) (by first | exact .inl (by decide +kernel) | exact .inr (by decide +kernel)) (by rw [isSubtype_type]; kernel_rfl)
theorem entry_rv_next : entryFor table "reversed.__next__" = some Builtin.«reversed.__next__» := entryFor_of_tree (by kernel_rfl)
theorem entry_rv_hint : entryFor table "reversed.__length_hint__" = some Builtin.«reversed.__length_hint__» := entryFor_of_tree (by kernel_rfl)
theorem entry_rv_iter : entryFor table "reversed.__iter__" = some Builtin.«dict_keyiterator.__iter__» := entryFor_alias (id' := "dict_keyiterator.__iter__") (by kernel_rfl) rfl (by decide +kernel) (by kernel_rfl)
theorem owner_rv : Manifest.owners.lookup (String.ofList ['d', 'e', 's', 'r', 'e', 'v', 'e', 'r'].reverse) = some Manifest.sig_reversed := by kernel_rfl
theorem args_rv_next (a : Value) : argsOk "reversed.__next__" ⟨[a], []⟩ := by
  unfold argsOk; rw [signature?_of (id := "reversed.__next__") (n := ['_', '_', 't', 'x', 'e', 'n', '_', '_']) (o := ['d', 'e', 's', 'r', 'e', 'v', 'e', 'r']) (by kernel_rfl) owner_rv]; kernel_rfl
theorem args_rv_iter (a : Value) : argsOk "reversed.__iter__" ⟨[a], []⟩ := by
  unfold argsOk; rw [signature?_of (id := "reversed.__iter__") (n := ['_', '_', 'r', 'e', 't', 'i', '_', '_']) (o := ['d', 'e', 's', 'r', 'e', 'v', 'e', 'r']) (by kernel_rfl) owner_rv]; kernel_rfl
theorem args_rv_hint (a : Value) : argsOk "reversed.__length_hint__" ⟨[a], []⟩ := by
  unfold argsOk; rw [signature?_of (id := "reversed.__length_hint__") (n := ['_', '_', 't', 'n', 'i', 'h', '_', 'h', 't', 'g', 'n', 'e', 'l', '_', '_']) (o := ['d', 'e', 's', 'r', 'e', 'v', 'e', 'r']) (by kernel_rfl) owner_rv]; kernel_rfl
theorem rv_no_len : typeLookup (.type "reversed") "__len__" = pure none := by rw [typeLookup_type, builtinLookup_eq_fast]; kernel_rfl
theorem tup_no_rev : typeLookup (.type "tuple") "__reversed__" = pure none := by rw [typeLookup_type, builtinLookup_eq_fast]; kernel_rfl
theorem called_rv : TypeCalled "reversed" "reversed.__new__" "object.__init__" := ⟨by decide +kernel, F.create_reversed, ⟨_, _, F.mro_reversed⟩, F.made_reversed, F.plain_reversed_new, F.sub_reversed_self, slot_rv_init⟩
def rvObj (t : Addr) (i : Int) : Obj := { cls := .type "reversed", data := .fields #[.ref t, rawInt i] }
def IsRv (h : Heap) (r t : Addr) (i : Int) : Prop := ∃ o, h.get? r = some o ∧ o.cls = .type "reversed" ∧ o.data = .fields #[.ref t, rawInt i]
section
variable {prog : Program} {w : World} {A : Around} {E : Value → Shared → Prop} {s : Shared} {r t : Addr} {items : Array Value} {i : Int}
theorem IsRv.typeIs (x : IsRv s.heap r t i) : s.TypeIs (.ref r) "reversed" := let ⟨o, ho, hc, _⟩ := x; ⟨o, ho, hc⟩
theorem IsRv.at {h h' : Heap} (x : IsRv h r t i) (k : ∀ o, h.get? r = some o → h'.get? r = some o) : IsRv h' r t i := let ⟨o, ho, q⟩ := x; ⟨o, k o ho, q⟩
theorem tupAt {h h' : Heap} (x : IsTup h t items) (k : ∀ o, h.get? t = some o → h'.get? t = some o) : IsTup h' t items := let ⟨o, ho, q⟩ := x; ⟨o, k o ho, q⟩
theorem tupT (x : IsTup s.heap t items) : s.TypeIs (.ref t) "tuple" := let ⟨o, ho, hc, _⟩ := x; ⟨o, ho, hc⟩
theorem sub_tup_dict : isSubtype (.type "tuple") (.type "dict") = pure false := by rw [isSubtype_type]; kernel_rfl
theorem rv_new {Q₁ : Value → Shared → Prop} (ht : IsTup s.heap t items) (hz : items.size ≤ sizeLine) (h : ∀ tk, Q₁ (.ref s.heap.objs.size) { s with heap := s.heap.push (rvObj t ((items.size : Int) - 1)), toks := tk }) :
    codeAny (model prog w) A (.call (.builtin "reversed.__new__") ⟨[.type "reversed", .ref t], []⟩) (wants Q₁ E) s := by
  have h63 : (items.size : Int) < 2 ^ 63 := by rw [sizeLine_eq] at hz; omega
  refine codeAny_of_tree ?_
  show wpAny _ A.in1 (checkBuiltinCall "reversed.__new__" ⟨[.type "reversed", .ref t], []⟩ >>= fun _ => again (.builtin "reversed.__new__" ⟨[.type "reversed", .ref t], []⟩)) _ _ s
  refine wpAny_bind (wpAny_of_eq (F.newCall_reversed_1 _) (wpAny_pure ⟨plainId_quiet F.plain_reversed_new _, codeAny_builtin F.entry_reversed_new ?_⟩)); rw [Around.under_plainId F.plain_reversed_new _]
  unfold Builtin.«reversed.__new__»
  refine wpAny_bind (wpAny_of_eq (newClass_reversed _) ?_); try dsimp only
  refine wpAny_bind (wpAny_of_eq (a := ()) (by first | rfl | kernel_rfl) (wpAny_bind (wpAny_of_eq (a := ()) (by first | rfl | kernel_rfl) ?_))); try dsimp only
  refine wpAny_bind (wpAny_specialOf (tupT ht) tup_no_rev ?_); try dsimp only
  refine wpAny_bind (wpAny_bind (wpAny_isInstance (tupT ht) sub_tup_dict ?_))
  refine wpAny_ite_split (fun hab => absurd hab (by decide)) (fun _ => ?_)
  refine wpAny_bind (wpAny_specialOf (tupT ht) F.slot_tuple_getitem.lookup ?_); try dsimp only
  refine wpAny_ite_split (fun _ => wpAny_pure ?_) (fun hab => absurd (by decide +kernel) hab)
  refine wpAny_ite_split (fun hab => absurd hab (by decide)) (fun _ => ?_)
  refine wpAny_bind (len_tuple ht h63 (wpAny_bind (wpAny_pure ?_))); try dsimp only
  refine wpAny_bind ?_; unfold Builtin.SmallTypes.newRecord; exact wpAny_newObj_type (wpAny_pure (h _)) (by size_fits)
theorem rv_call {Q : Value → Shared → Prop} (ht : IsTup s.heap t items) (hz : items.size ≤ sizeLine) (h : ∀ tk, Q (.ref s.heap.objs.size) { s with heap := s.heap.push (rvObj t ((items.size : Int) - 1)), toks := tk }) :
    wpAny (model prog w) A (call (.type "reversed") [.ref t]) Q E s := by
  refine callType_codes (Q₁ := fun obj s₁ => ∃ tk, obj = .ref s.heap.objs.size ∧ s₁ = { s with heap := s.heap.push (rvObj t ((items.size : Int) - 1)), toks := tk }) called_rv (F.typeCall_reversed_1 _) F.entry_object_init (rv_new ht hz fun tk => ⟨tk, rfl, rfl⟩) fun obj s₁ h₁ => ?_
  obtain ⟨tk, rfl, rfl⟩ := h₁
  have hT : Shared.TypeIs { s with heap := s.heap.push (rvObj t ((items.size : Int) - 1)), toks := tk } (.ref s.heap.objs.size) "reversed" := ⟨_, Heap.get?_push_size _ rfl, rfl⟩
  exact ⟨hT, F.args_object_init_2 _ _, object_init_meets called_rv.init.lookup called_rv.made (by decide) prog w A.in1 _ _ ⟨hT, rfl, h tk⟩⟩
theorem rv_item {j : Nat} {x : Value} {Q : Option Value → Shared → Prop} (hit : IsRv s.heap r t (j : Int)) (ht : IsTup s.heap t items) (hx : items[j]? = some x) (hz : items.size ≤ sizeLine)
    (hQ : ∀ h' tk, IsRv h' r t ((j : Int) - 1) → Heap.SameBut r s.heap h' → Q (some x) { s with heap := h', toks := tk }) : wpAny (model prog w) A (pyNext (.ref r)) Q E s := by
  obtain ⟨o, ho, hc, hd⟩ := id hit
  have hj : j < items.size := by
    rcases Nat.lt_or_ge j items.size with g | g
    · exact g
    · rw [Array.getElem?_eq_none g] at hx; cases hx
  rw [sizeLine_eq] at hz
  unfold pyNext
  refine wpAny_bind (wpAny_attempt (wpAny_callSpecial?_slot (name := Str.ofString "__next__") hit.typeIs slot_rv_next (wpAny_call_entry slot_rv_next hit.typeIs entry_rv_next ?_ (args_rv_next _))))
  unfold Builtin.«reversed.__next__»
  refine wpAny_bind (wpAny_of_eq (a := (Value.ref r, [])) rfl ?_); try dsimp only
  refine wpAny_bind (wpAny_field ho hd (x := .ref t) rfl (wpAny_bind (wpAny_field ho hd (x := rawInt (j : Int)) rfl ?_)))
  show wpAny _ _ (if (j : Int) < 0 then _ else _) _ _ s
  rw [if_neg (by omega)]
  refine wpAny_bind (wpAny_specialOf (tupT ht) F.slot_tuple_getitem.lookup ?_)
  refine wpAny_ite_split (fun hab => absurd hab (by decide)) (fun _ => ?_)
  refine wpAny_bind (wpAny_mkInt ?_)
  refine wpAny_bind (wpAny_attempt (getItem_tuple (s := { s with toks := s.toks + 1 }) ht (by omega) (by omega) (j := j) (x := x) (by unfold seqIndex?; simp only [show ¬ ((j : Int) < 0) by omega, if_false]; simp [hj]) hx ?_)); try dsimp only
  refine wpAny_bind (wpAny_field ho hd (x := rawInt (j : Int)) rfl ?_)
  show wpAny _ _ (setField (.ref r) 1 (rawInt ((j : Int) - 1)) >>= _) _ _ _
  refine wpAny_bind (wpAny_setField ho hd (by simp) ?_)
  refine wpAny_pure ⟨x, rfl, wpAny_pure (hQ _ _ ?_ (Heap.SameBut.update ..))⟩
  exact ⟨_, Heap.get?_update_self _ ho (Obj.isFreed_of_fields (Obj.data_mapFields hd _)), (Obj.cls_mapFields ..).trans hc, by rw [Obj.data_mapFields hd]; simp⟩
theorem rv_end {Q : Option Value → Shared → Prop} (hh : A.handled = none) (hit : IsRv s.heap r t (-1)) (hQ : ∀ h', Heap.ExtBut r s.heap h' → Q none { s with heap := h' }) : wpAny (model prog w) A (pyNext (.ref r)) Q E s := by
  obtain ⟨o, ho, hc, hd⟩ := id hit
  unfold pyNext
  refine wpAny_bind (wpAny_attempt (wpAny_callSpecial?_slot (name := Str.ofString "__next__") hit.typeIs slot_rv_next (wpAny_call_entry slot_rv_next hit.typeIs entry_rv_next ?_ (args_rv_next _))))
  unfold Builtin.«reversed.__next__»
  refine wpAny_bind (wpAny_of_eq (a := (Value.ref r, [])) rfl ?_); try dsimp only
  refine wpAny_bind (wpAny_field ho hd (x := .ref t) rfl (wpAny_bind (wpAny_field ho hd (x := rawInt (-1)) rfl ?_)))
  show wpAny _ _ (if (-1 : Int) < 0 then _ else _) _ _ s
  rw [if_pos (by decide)]
  refine wpAny_bind (wpAny_rule ?_)
  refine wpAny_bind (wpAny_bind (wpAny_setField ho hd (by simp) ?_))
  have g1 := Heap.get?_update_self (Obj.mapFields (·.setIfInBounds 1 (rawInt (-1)))) ho (Obj.isFreed_of_fields (Obj.data_mapFields hd _))
  refine wpAny_setField g1 (Obj.data_mapFields hd _) (by simp) ?_
  refine wpAny_bind ?_; unfold Builtin.SmallTypes.stopIteration; refine wpAny_bind ?_
  simp only [newExc, newTuple]
  refine wpAny_bind (wpAny_newObj_type ?_ (by size_fits))
  refine wpAny_bind (m := firstArgMember _ _) (wpAny_of_eq (a := Value.none) (by first | rfl | (simp only [firstArgMember]; rfl)) (wpAny_newObj_type ?_ (by size_fits)))
  simp only [raiseNew]
  refine wpAny_bind (wpAny_handled ?_); rw [show A.in1.handled = none from hh]
  refine wpAny_bind (wpAny_pure (wpAny_throw ?_)); refine wpAny_bind (wpAny_isInstance (T := "StopIteration") (b := true) ⟨_, Heap.get?_push_size _ rfl, rfl⟩ isSubtype_stop (wpAny_pure ?_))
  exact hQ _ ((((Heap.SameBut.update ..).trans (Heap.SameBut.update ..)).extBut.push _).push _)
theorem rv_iter {Q : Value → Shared → Prop} (hit : IsRv s.heap r t i) (h : Q (.ref r) s) : wpAny (model prog w) A (pyIter (.ref r)) Q E s := by
  refine wpAny_pyIter_slot hit.typeIs slot_rv_iter (wpAny_call_entry slot_rv_iter hit.typeIs entry_rv_iter ?_ (args_rv_iter _))
  show wpAny _ _ (ret (.ref r)) _ _ s
  exact wpAny_pure ⟨_, rfl, "reversed", _, hit.typeIs, slot_rv_next.lookup, h⟩
theorem rv_hint {Q : Bool → Shared → Prop} (hit : IsRv s.heap r t ((items.size : Int) - 1)) (ht : IsTup s.heap t items) (hz : items.size ≤ sizeLine) (h : ∀ b tk, s.toks ≤ tk → Q b { s with toks := tk }) : wpAny (model prog w) A (Builtin.List.listLengthHint (.ref r)) Q E s := by
  obtain ⟨o, ho, hc, hd⟩ := id hit
  have h63 : (items.size : Int) < 2 ^ 63 := by rw [sizeLine_eq] at hz; omega
  have hT := hit.typeIs
  unfold Builtin.List.listLengthHint
  refine wpAny_bind (wpAny_specialOf hT rv_no_len ?_)
  simp only [Option.isSome_none, Bool.false_eq_true, if_false]
  refine wpAny_ite_split (fun hab => absurd hab (by decide +kernel)) (fun _ => ?_)
  refine wpAny_bind (wpAny_specialOf hT slot_rv_hint.lookup ?_)
  generalize hid : ("reversed.__length_hint__" : String) = id0
  wp_delta
  rw [show splitId id0 = some ("reversed", "__length_hint__") from by subst hid; decide +kernel]
  subst hid
  refine wpAny_bind (wpAny_isInstance (T := "reversed") (b := true) hT F.sub_reversed_self ?_)
  refine wpAny_ite_split (fun hab => absurd hab (by decide)) (fun _ => ?_)
  refine wpAny_ite_split (fun hab => absurd hab (by decide +kernel)) (fun _ => ?_)
  refine wpAny_bind (wpAny_rule (wpAny_bind (wpAny_of_eq (slot_rv_hint.bind _) ?_))); try dsimp only
  refine wpAny_bind (wpAny_attempt (wpAny_call_entry slot_rv_hint hT entry_rv_hint ?_ (args_rv_hint _)))
  unfold Builtin.«reversed.__length_hint__»
  refine wpAny_bind (wpAny_of_eq (a := Value.ref r) rfl ?_)
  refine wpAny_bind (wpAny_field ho hd (x := .ref t) rfl ?_)
  refine wpAny_ite_split (fun hab => absurd hab (by show ¬ (false = true); decide)) (fun _ => ?_)
  refine wpAny_bind (len_tuple ht h63 (wpAny_bind (wpAny_pure ?_))); try dsimp only
  refine wpAny_bind (wpAny_field ho hd (x := rawInt ((items.size : Int) - 1)) rfl ?_)
  show wpAny _ _ (if (items.size : Int) < (items.size : Int) - 1 + 1 then _ else _) _ _ _
  rw [if_neg (by omega)]
  refine wpAny_bind (wpAny_mkInt (wpAny_pure ⟨_, rfl, ?_⟩))
  refine wpAny_bind (wpAny_pure ?_); try dsimp only
  have hL : Builtin.List.listFitsIndex ((items.size : Int) - 1 + 1) = true := by
    unfold Builtin.List.listFitsIndex; simp; omega
  have hT2 : Builtin.List.listTooLong ((items.size : Int) - 1 + 1).toNat = false := by
    unfold Builtin.List.listTooLong
    rw [show ((items.size : Int) - 1 + 1).toNat = items.size by omega]
    simpa using hz
  rw [hL, hT2]
  refine wpAny_ite_split (fun hab => absurd hab (by decide)) (fun _ => ?_)
  refine wpAny_ite_split (fun hab => absurd hab (by omega)) (fun _ => ?_)
  refine wpAny_ite_split (fun hab => absurd hab (by decide)) (fun _ => wpAny_pure (h _ _ ?_))
  exact Nat.le_succ_of_le (Nat.le_succ_of_le (Nat.le_succ _))
end
theorem walksRv {prog : Program} {w : World} {A : Around} (hh : A.handled = none) (I t : Addr) (hne : t ≠ I) (items : Array Value) (hz : items.size ≤ sizeLine) :
    Walks prog w A I [I, t] [I] items.size (fun i v => items[items.size - 1 - i]? = some v) (fun i h => i ≤ items.size ∧ IsRv h I t ((items.size : Int) - 1 - (i : Int)) ∧ IsTup h t items) where
  sub := fun b hb => by simp at hb; simp [hb]
  frame := fun _ _ _ x hk => ⟨x.1, x.2.1.at fun o e => hk I (by simp) o e, tupAt x.2.2 fun o e => hk t (by simp) o e⟩
  item := fun i s Q E hi x hQ => by
    have e : (items.size : Int) - 1 - (i : Int) = ((items.size - 1 - i : Nat) : Int) := by omega
    have hit := x.2.1
    rw [e] at hit
    have hlt : items.size - 1 - i < items.size := by omega
    refine rv_item hit x.2.2 (x := items[items.size - 1 - i]) (by simp [hlt]) hz fun h' tk hit' hs => ?_
    refine hQ _ h' tk (by simp [hlt]) ⟨by omega, ?_, tupAt x.2.2 fun o e => hs.extBut t o hne e⟩ fun b o hb e => hs.extBut b o (fun h => hb (by simp [h])) e
    rw [show (items.size : Int) - 1 - ((i + 1 : Nat) : Int) = ((items.size - 1 - i : Nat) : Int) - 1 by omega]
    exact hit'
  done := fun s Q E x hQ => by
    have hit := x.2.1
    rw [show (items.size : Int) - 1 - (items.size : Int) = -1 by omega] at hit
    exact rv_end hh hit fun h' he' => hQ h' s.toks fun b o hb e => he' b o (fun h => hb (by simp [h])) e
  self := fun _ _ _ _ x hQ => rv_iter x.2.1 hQ
section
variable {prog : Program} {w : World} {A : Around} {E : Value → Shared → Prop} {s : Shared} {r t : Addr} {items : Array Value}
theorem rv_extend {R : Result → Shared → Prop} (hh : A.handled = none) (hit : IsRv s.heap r t ((items.size : Int) - 1)) (ht : IsTup s.heap t items) (hz : items.size ≤ sizeLine) (S : Addr) (hSr : S ≠ r) (hSt : S ≠ t) (htr : t ≠ r) (res : Value) (c₀ : Nat) (hS : s.heap.get? S = some { cls := .type "list", data := .seq #[] c₀ })
    (hR : ∀ h' tk acc c, (∀ b o, b ≠ S → b ≠ r → s.heap.get? b = some o → h'.get? b = some o) → h'.get? S = some { cls := .type "list", dict := none, data := .seq acc c, slots := #[] } → acc.toList = items.toList.reverse → R (.ok (.ret res)) { s with heap := h', toks := tk }) :
    wpAny (model prog w) A.in1 (Builtin.List.listExtendWith (.ref S) (.ref r) res)
      (fun fin s' => match fin with | .done f => R (.ok f) s' | .again c' => c'.quiet = true ∧ codeAny (model prog w) A c' R s') (fun e s' => R (.error e) s') s := by
  have key : ∀ (h1 : Heap) (tk1 : Nat) (c₁ : Nat), (∀ b o, b ≠ S → b ≠ r → s.heap.get? b = some o → h1.get? b = some o) → IsRv h1 r t ((items.size : Int) - 1) → IsTup h1 t items → h1.get? S = some { cls := .type "list", dict := none, data := .seq #[] c₁, slots := #[] } →
      codeAny (model prog w) A (.builtin "list.extend.loop" ⟨[.ref S, .ref r, res], []⟩) R { s with heap := h1, toks := tk1 } := by
    intro h1 tk1 c₁ hm q1 q2 q3
    have hSf : S ∉ [r, t] := by simp [hSr, hSt]
    refine codeAny_extend_loopS ((walksRv (by simpa using hh) r t htr items hz).toS) hz S hSf res items.size 0 _ #[] c₁ (Nat.sub_zero _) (Nat.zero_le _) ⟨Nat.zero_le _, by simpa using q1, q2⟩ q3 (ItemsOf.nil _) fun s' acc c' hm' hS' hacc => ?_
    obtain ⟨h', g', d', tk', os'⟩ := s'
    have eg : g' = s.gens := hm'.gens
    have ed : d' = s.drawn := hm'.drawn
    have eo : os' = s.os := hm'.os
    subst eg ed eo
    refine hR h' tk' acc c' (fun b o hb1 hb2 e => hm'.heap b o (by simp [hb1, hb2]) (hm b o hb1 hb2 e)) hS' ?_
    apply List.ext_getElem?
    intro j
    by_cases hj : j < items.size
    · have hj' : j < acc.size := by rw [hacc.1]; exact hj
      have h4 := hacc.2 j acc[j] (by simp [hj'])
      have e1 : acc.toList[j]? = some acc[j] := by simp [hj']
      rw [e1, List.getElem?_reverse (by simpa using hj), ← h4]
      simp
    · rw [List.getElem?_eq_none (by simp [hacc.1]; omega), List.getElem?_eq_none (by simp; omega)]
  unfold Builtin.List.listExtendWith
  refine wpAny_bind (wpAny_typeOf (T := "reversed") hit.typeIs ?_)
  have h1 : Builtin.List.listSameRef (.ref S) (.ref r) = false := by simp [Builtin.List.listSameRef, hSr]
  have h2 : (Value.type "reversed" == Value.type "list") = false := by decide
  have h3 : (Value.type "reversed" == Value.type "tuple") = false := by decide
  simp only [h1, h2, h3, Bool.or_false, Bool.false_eq_true, if_false]
  refine wpAny_bind (rv_iter hit (wpAny_bind (wpAny_holding (rv_hint hit ht hz fun room tk _ => ?_))))
  refine wpAny_ite_split (fun _ => wpAny_bind (wpAny_rule ?_)) (fun _ => wpAny_pure ⟨plainId_quiet PySem.F.plain_extend_loop _, key s.heap tk c₀ (fun _ _ _ _ e => e) hit ht hS⟩)
  unfold Builtin.List.listTouch
  refine wpAny_bind (wpAny_bind (listUpdate_at (s := { s with toks := tk }) hS rfl ?_))
  obtain ⟨c1, g1⟩ : ∃ c, (s.heap.update S (Obj.mapSeq (·.push Value.none))).get? S = some (seqObj "list" (#[].push Value.none) c) := ⟨_, get?_update_seq hS _⟩
  refine listUpdate_at g1 rfl ?_
  obtain ⟨c2, g2⟩ : ∃ c, ((s.heap.update S (Obj.mapSeq (·.push Value.none))).update S (Obj.mapSeq (·.pop))).get? S = some (seqObj "list" ((#[].push Value.none).pop) c) := ⟨_, get?_update_seq g1 _⟩
  have old : ∀ b o, b ≠ S → s.heap.get? b = some o → ((s.heap.update S (Obj.mapSeq (·.push Value.none))).update S (Obj.mapSeq (·.pop))).get? b = some o := fun b o hb e => (Heap.get?_update_other _ _ (Ne.symm hb)).trans ((Heap.get?_update_other _ _ (Ne.symm hb)).trans e)
  exact wpAny_pure ⟨plainId_quiet PySem.F.plain_extend_loop _, key _ tk c2 (fun b o hb _ e => old b o hb e) (hit.at fun o e => old r o (Ne.symm hSr) e) (tupAt ht fun o e => old t o (Ne.symm hSt) e) g2⟩
theorem rv_collect {R : List Value → Shared → Prop} (hh : A.handled = none) (hit : IsRv s.heap r t ((items.size : Int) - 1)) (ht : IsTup s.heap t items) (hz : items.size ≤ sizeLine) (htr : t ≠ r)
    (h : ∀ (h' : Heap) (tk : Nat), (∀ b o, b ≠ r → s.heap.get? b = some o → h'.get? b = some o) → R items.toList.reverse { s with heap := h', toks := tk }) : wpAny (model prog w) A (collect (.ref r)) R E s := by
  have hr : r < s.heap.objs.size := let ⟨_, ho, _⟩ := hit; Heap.lt_size ho
  have htz : t < s.heap.objs.size := let ⟨_, ho, _⟩ := ht; Heap.lt_size ho
  unfold collect
  refine wpAny_bind (wpAny_runValue (codeAny_builtin entry_proto_collect' ?_)); rw [Around.under_plainId PySem.F.plain_proto_collect _]
  show wpAny _ A.in1 (newList [] >>= fun l => again (.builtin "list.__iadd__" ⟨[l, .ref r], []⟩)) _ _ s
  refine wpAny_bind (wpAny_newObj_type (wpAny_pure ⟨plainId_quiet PySem.F.plain_list_iadd _, codeAny_builtin entry_list_iadd' ?_⟩)); rw [Around.under_plainId PySem.F.plain_list_iadd _]
  have hS₁ : (s.heap.push { cls := .type "list", data := .seq ([] : List Value).toArray }).get? s.heap.objs.size = some { cls := .type "list", data := .seq #[] } := Heap.get?_push_size _ rfl
  show wpAny _ A.in1 (Builtin.List.listExtendWith (.ref s.heap.objs.size) (.ref r) (.ref s.heap.objs.size)) _ _ _
  have key := rv_extend (prog := prog) (w := w) (A := A) (s := { s with heap := s.heap.push { cls := .type "list", data := .seq ([] : List Value).toArray } }) (r := r) (t := t) (items := items)
    (R := fun (q : Result) (s' : Shared) => ∃ (h' : Heap) (tk : Nat) (acc' : Array Value) (c' : Nat), q = .ok (.ret (.ref s.heap.objs.size)) ∧ s' = { s with heap := h', toks := tk } ∧
      (∀ b o, b ≠ r → s.heap.get? b = some o → h'.get? b = some o) ∧ h'.get? s.heap.objs.size = some { cls := .type "list", dict := none, data := .seq acc' c', slots := #[] } ∧ acc'.toList = items.toList.reverse)
    hh (hit.at fun o e => Heap.get?_push_of_some _ e) (tupAt ht fun o e => Heap.get?_push_of_some _ e) hz s.heap.objs.size (Nat.ne_of_gt hr) (Nat.ne_of_gt htz) htr (.ref s.heap.objs.size) 0 hS₁
    (fun h' tk acc' c' hk hS' hacc => ⟨h', tk, acc', c', rfl, rfl, fun b o hb e => hk b o (Nat.ne_of_lt (Heap.lt_size e)) hb (Heap.get?_push_of_some _ e), hS', hacc⟩)
  refine wpAny_mono key (fun fin s' x => ?_) fun e s' x => ?_
  · cases fin with
    | done f =>
      obtain ⟨h', tk, acc', c', e, rfl, hk, hS', hacc⟩ := x
      cases e
      show wpAny _ A (load s.heap.objs.size >>= _) _ _ _
      refine wpAny_bind (wpAny_load hS' ?_)
      exact wpAny_pure (hacc ▸ h h' tk hk)
    | again c₁ =>
      refine ⟨x.1, codeAny_mono x.2 fun q s₂ y => ?_⟩
      obtain ⟨h', tk, acc', c', rfl, rfl, hk, hS', hacc⟩ := y
      show wpAny _ A (load s.heap.objs.size >>= _) _ _ _
      refine wpAny_bind (wpAny_load hS' ?_)
      exact wpAny_pure (hacc ▸ h h' tk hk)
  · obtain ⟨_, _, _, _, e', _⟩ := x
    cases e'
theorem rv_tuple_new {Q₁ : Value → Shared → Prop} (hh : A.handled = none) (hit : IsRv s.heap r t ((items.size : Int) - 1)) (ht : IsTup s.heap t items) (hz : items.size ≤ sizeLine) (htr : t ≠ r)
    (h : ∀ (h' : Heap) (tk : Nat), (∀ b o, b ≠ r → s.heap.get? b = some o → h'.get? b = some o) → Q₁ (.ref h'.objs.size) { s with heap := h'.push { cls := .type "tuple", data := .seq items.reverse }, toks := tk }) :
    codeAny (model prog w) A (.call (.builtin "tuple.__new__") ⟨[.type "tuple", .ref r], []⟩) (wants Q₁ E) s := by
  refine codeAny_of_tree ?_
  show wpAny _ A.in1 (checkBuiltinCall "tuple.__new__" ⟨[.type "tuple", .ref r], []⟩ >>= fun _ => again (.builtin "tuple.__new__" ⟨[.type "tuple", .ref r], []⟩)) _ _ s
  refine wpAny_bind (wpAny_of_eq (F.newCall_tuple_1 _) (wpAny_pure ⟨plainId_quiet F.plain_tuple_new _, codeAny_builtin F.entry_tuple_new ?_⟩)); rw [Around.under_plainId F.plain_tuple_new _]
  have hsub := sub_tuple_self; have hinit := init_tuple_lookup; have hmh := madeHere_tuple; have hTI := hit.typeIs
  unfold Builtin.«tuple.__new__»
  generalize hC : collect = C
  wp_walk using wpAny_typeOf hTI
  subst hC
  refine rv_collect (by simpa using hh) hit ht hz htr fun h' tk hk => ?_
  refine wpAny_bind (wpAny_pure ?_)
  show wpAny _ _ (Builtin.Tuple.tupleExact items.toList.reverse.toArray >>= fun v => ret v) _ _ _
  have e : items.toList.reverse.toArray = items.reverse := by apply Array.toList_inj.mp; simp
  rw [e]
  unfold Builtin.Tuple.tupleExact
  refine wpAny_bind (wpAny_newObj_type ?_ (by show items.reverse.size ≤ sizeLine; simpa using hz))
  exact wpAny_pure (h h' tk hk)
theorem rv_tuple {Q : Value → Shared → Prop} (hh : A.handled = none) (hit : IsRv s.heap r t ((items.size : Int) - 1)) (ht : IsTup s.heap t items) (hz : items.size ≤ sizeLine) (htr : t ≠ r)
    (h : ∀ (h' : Heap) (tk : Nat), (∀ b o, b ≠ r → s.heap.get? b = some o → h'.get? b = some o) → Q (.ref h'.objs.size) { s with heap := h'.push { cls := .type "tuple", data := .seq items.reverse }, toks := tk }) :
    wpAny (model prog w) A (call (.type "tuple") [.ref r]) Q E s := by
  refine callType_codes (Q₁ := fun obj s₁ => s₁.TypeIs obj "tuple" ∧ Q obj s₁) F.called_tuple (F.typeCall_tuple_1 _) F.entry_object_init (rv_tuple_new (by simpa using hh) hit ht hz htr fun h' tk hk => ⟨⟨_, Heap.get?_push_size _ rfl, rfl⟩, h h' tk hk⟩) fun obj s₁ h₁ => ?_
  exact ⟨h₁.1, F.args_object_init_2 obj _, object_init_meets F.called_tuple.init.lookup F.called_tuple.made (by decide) prog w A.in1 _ s₁ ⟨h₁.1, rfl, h₁.2⟩⟩
end
end ST
namespace L2
open PySem PySem.Spec PyProof.Rows
section
variable {X : Cx} {K : PySem.W.Frag} {a : Expr} {ta : TE} {ma : FE} {p1 p2 pos1 pos2 pos : Pos}
def tTupRev (K : PySem.W.Frag) (ta : TE) : TE := fun σ H Q => ta σ H fun x H1 => ∃ p xs, x = .ref p ∧ SqT K H1 p xs ∧ ∀ l, H1 l = none → Q (.ref l) (upd H1 l (.tup xs.reverse))
theorem pe_tupRev (hc : X.calm = true) (q1 : NmOk X.env.scope "tuple" .globalImplicit) (m1 : X.mg "tuple" = none) (q2 : NmOk X.env.scope "reversed" .globalImplicit) (m2 : X.mg "reversed" = none) (ha : PE X a ta) (hs : notStar a = true) :
    PE X (.Call (.Name "tuple" p1) [.Call (.Name "reversed" p2) [a] [] pos2] [] pos1) (tTupRev X.K ta) := by
  intro pins s σ H Q I h
  refine Call_ (ld_blt I q1.lk m1 (show bootBuiltins "tuple" = some (.type "tuple") by decide +kernel) (PyProof.Rows.callWith_type1 ?_ rfl rfl))
  show wpAny _ _ (spliced ((false, eval (.Call (.Name "reversed" p2) [a] [] pos2) X.env) :: backTo pos1 (starEach [] X.env))) _ _ s
  refine Calls.spliced_cons ?_
  refine Call_ (ld_blt I q2.lk m2 PyProof.Rows.boot_reversed (PyProof.Rows.callWith_type1 (thn ((pa_c ha pa_nil hs) pos2 pins s σ H (fun vs H1 => match vs with | [x] => (∃ p xs, x = .ref p ∧ SqT X.K H1 p xs ∧ ∀ l, H1 l = none → Q (.ref l) (upd H1 l (.tup xs.reverse))) | _ => False) I h) fun us s1 ⟨vs, H1, I1, r1, q⟩ => ?_) (star_cons hs) rfl))
  cases r1 with
  | nil => exact q.elim
  | cons r rr =>
    cases rr with
    | cons _ _ => exact q.elim
    | nil =>
    obtain ⟨p, xs, ex, hq, q⟩ := q
    subst ex
    cases (show _ = Value.ref p from r)
    obtain ⟨its, rv, pl, hz⟩ := I1.tuple hq
    have hz' : its.toArray.size ≤ sizeLine := by rw [List.size_toArray, ← rv.length]; exact hz
    refine ST.rv_call pl hz' fun tk => Calls.spliced_nil ?_
    have hp : p < s1.heap.objs.size := let ⟨_, ho, _⟩ := pl; Heap.lt_size ho
    have hit : ST.IsRv (s1.heap.push (ST.rvObj p ((its.toArray.size : Int) - 1))) s1.heap.objs.size p ((its.toArray.size : Int) - 1) := ⟨_, Heap.get?_push_size _ rfl, rfl, rfl⟩
    refine ST.rv_tuple (s := { s1 with heap := s1.heap.push (ST.rvObj p ((its.toArray.size : Int) - 1)), toks := tk }) (items := its.toArray) (r := s1.heap.objs.size) (t := p) (I1.ok.hd hc) hit (ST.tupAt pl fun o e => Heap.get?_push_of_some _ e) hz' (Nat.ne_of_lt hp) fun h' tk' hk => ?_
    have keep : ∀ b o, s1.heap.get? b = some o → (h'.push { cls := .type "tuple", data := .seq its.toArray.reverse }).get? b = some o := fun b o e => Heap.get?_push_of_some _ (hk b o (Nat.ne_of_lt (Heap.lt_size e)) (Heap.get?_push_of_some _ e))
    have hD : s1.heap.get? h'.objs.size = none := by
      cases q' : s1.heap.get? h'.objs.size with
      | none => rfl
      | some o => exact absurd (Heap.lt_size (hk _ _ (Nat.ne_of_lt (Heap.lt_size q')) (Heap.get?_push_of_some _ q'))) (Nat.lt_irrefl _)
    have hDn := I1.none_at hD
    refine ⟨.ref _, upd H1 h'.objs.size (.tup xs.reverse), I1.laids (t' := tk') keep (same_new hDn _) fun b u e => ?_, rfl, q _ hDn⟩
    by_cases hb : b = h'.objs.size
    · subst hb
      rw [upd_same] at e
      cases e
      refine .inr ⟨hD, ⟨by rw [List.length_reverse]; exact hz, its.reverse, rv.reverse, ?_⟩⟩
      exact ⟨_, Heap.get?_push_size _ rfl, ⟨rfl, rfl⟩, _, by simp; rfl⟩
    · rw [upd_ne hb] at e; exact .inl e
def tupM : M → Option (List M)
  | .tup xs => some xs
  | _ => none
def opTupRev (x : M) (_ : HpM) : Option M := (tupM x).map fun xs => .tup xs.reverse
theorem me_tupRev (hc : X.calm = true) (q1 : NmOk X.env.scope "tuple" .globalImplicit) (m1 : X.mg "tuple" = none) (q2 : NmOk X.env.scope "reversed" .globalImplicit) (m2 : X.mg "reversed" = none) (ha : PE X a (tM X.K ma)) (hs : notStar a = true) :
    PE X (.Call (.Name "tuple" p1) [.Call (.Name "reversed" p2) [a] [] pos2] [] pos1) (tM X.K (mUn opTupRev ma)) := (pe_tupRev hc q1 m1 q2 m2 ha hs).imp fun σ H Q ⟨α, ρ, h, d, h', hσ, hr, e, k⟩ => by
  obtain ⟨x, h1, e1, e⟩ := bnd_inv e
  obtain ⟨e3, e4⟩ := map_inv e
  dsimp only at e3 e4
  subst e4
  obtain ⟨xs, e5, e6⟩ := Option.map_eq_some_iff.mp e3
  refine ⟨α, ρ, h, x, _, hσ, hr, e1, fun α1 H1 v ev1 hr1 rv => ?_⟩
  cases x <;> cases e5
  obtain ⟨p, vs, rfl, sq, rs⟩ := rv
  refine ⟨p, vs, rfl, sq.sq, fun l hl => ?_⟩
  rw [← e6] at k
  exact k α1 _ _ (ev1.trans (.same (same_new hl _))) (hr1.same (same_new hl _)) (laidT hr1 hl rs.reverse)
def tLen (a : FE) : FT := fun ρ h => bnd (a ρ h) fun x h1 => (seqR h1 x).map fun xs => (!xs.isEmpty, h1)
theorem mt_truL (ha : PE X a (tM X.K ma)) (he : ∀ whole, isTrue a X.env whole = (do let v ← whole; standAt a.pos; holding [v] (truthy v))) : PT X a (bM X.K (tLen ma)) := (pt_truth ha he).imp fun σ H Q ⟨α, ρ, h, d, h', hσ, hr, e, k⟩ => by
  obtain ⟨x, h1, e1, e⟩ := bnd_inv e
  obtain ⟨xs, e2, e3⟩ := Option.map_eq_some_iff.mp e
  cases e3
  refine ⟨α, ρ, h, x, _, hσ, hr, e1, fun α1 H1 v ev1 hr1 rv => ?_⟩
  obtain ⟨p, vs, rfl, sq, rs⟩ := seqR_rep hr1 rv e2
  refine ⟨!vs.isEmpty, .inl ⟨vs, sq, rfl⟩, ?_⟩
  have : (!vs.isEmpty) = !xs.isEmpty := by
    have := rs.length
    cases xs <;> cases vs <;> simp_all
  rw [this]
  exact k α1 H1 ev1 hr1
end
section
variable {R : M → HpM → Prop} {B : Bool → HpM → Prop} {ρ : EnvM} {h : HpM} {ma : FE}
theorem e_tupRev (q : Ens (ma ρ h) fun x h1 => ∃ xs, x = .tup xs ∧ R (.tup xs.reverse) h1) : Ens (mUn opTupRev ma ρ h) R := .bnd (q.mono fun x h1 q => by
  obtain ⟨xs, rfl, q⟩ := q
  exact .ret q)
theorem e_truL (q : Ens (ma ρ h) fun x h1 => ∃ xs, seqR h1 x = some xs ∧ B (!xs.isEmpty) h1) : Ens (tLen ma ρ h) B := .bnd (q.mono fun x h1 q => by
  obtain ⟨xs, e, q⟩ := q
  show Ens ((seqR h1 x).map _) B
  rw [e]
  exact .ret q)
theorem e_set1 (q : Ens (ma ρ h) fun x h1 => ∃ na, setM h1 x = some na ∧ R (.lst ((upTo na).map M.int)) h1) : Ens (mUn opSet1 ma ρ h) R := .bnd (q.mono fun x h1 q => by
  obtain ⟨na, e, q⟩ := q
  show Ens ((opSet1 x h1).map (·, h1)) R
  unfold opSet1
  rw [e]
  exact .ret q)
end
end L2
set_option maxHeartbeats 1000000
namespace L2
open PySem PySem.Spec PyProof.Rows
def ConstD (P : Program) (w : World) (K : PySem.W.Frag) (kvs : List (Key × M)) (u : Value) : Prop :=
  ∃ (a : Addr) (o : Obj) (es : Array DictEntry) (ep : Nat) (ws : List (Key × V)) (vs : List (Key × Value)), u = .ref a ∧ K.lookup a = some o ∧ o.ExactDict ∧ o.data = .dict es ep ∧ KeysOf (mixKind P w) es ∧ KV ws vs ∧ Pairs (mixKind P w) es.toList vs ∧ (vs.map (·.1)).Nodup ∧
    ws.map (·.1) = kvs.map (·.1) ∧ ∀ α H, RepAs K α H (kvs.map (·.2)) (ws.map (·.2))
def DctE (P : Program) (w : World) : List (Key × M) → List DictEntry → List (Key × V) → List (Key × Value) → Prop
  | [], es, ws, vs => es = [] ∧ ws = [] ∧ vs = []
  | kv :: kvs, es, ws, vs => ∃ x z t t' es' ws' vs', kv = (.inr x, .str z) ∧ es = ⟨keyH w (.inr x), .str x t, .str z t'⟩ :: es' ∧ ws = (.inr x, .str z) :: ws' ∧ vs = (.inr x, .str z t') :: vs' ∧ DctE P w kvs es' ws' vs'
theorem dct_nil {P : Program} {w : World} : ∃ ws vs, DctE P w [] [] ws vs := ⟨[], [], rfl, rfl, rfl⟩
theorem dct_cons {P : Program} {w : World} {x z : Str} {t t' : Tok} {kvs : List (Key × M)} {es : List DictEntry} (h : ∃ ws vs, DctE P w kvs es ws vs) : ∃ ws vs, DctE P w ((.inr x, .str z) :: kvs) (⟨PyData.keyHash w.params x, .str x t, .str z t'⟩ :: es) ws vs := by
  obtain ⟨ws, vs, h⟩ := h
  exact ⟨_, _, x, z, t, t', es, ws, vs, rfl, rfl, rfl, rfl, h⟩
theorem DctE.all {P : Program} {w : World} : ∀ {kvs : List (Key × M)} {es : List DictEntry} {ws : List (Key × V)} {vs : List (Key × Value)}, DctE P w kvs es ws vs →
    (∀ e ∈ es, ∃ k, (mixKind P w).is k e.key = true ∧ e.hash = (mixKind P w).hash k) ∧ KV ws vs ∧ Pairs (mixKind P w) es vs ∧ vs.map (·.1) = kvs.map (·.1) ∧ ws.map (·.1) = kvs.map (·.1) ∧ ∀ (K : PySem.W.Frag) α H, RepAs K α H (kvs.map (·.2)) (ws.map (·.2))
  | [], _, _, _, ⟨e1, e2, e3⟩ => by
    subst e1 e2 e3
    exact ⟨(fun e he => by cases he), .nil, .nil, rfl, rfl, fun _ _ _ => rfl⟩
  | kv :: kvs, _, _, _, ⟨x, z, t, t', es', ws', vs', e0, e1, e2, e3, h⟩ => by
    subst e0 e1 e2 e3
    obtain ⟨h1, h2, h3, h4, h5, h6⟩ := DctE.all h
    refine ⟨fun e he => ?_, .cons ⟨rfl, ⟨t', rfl⟩⟩ h2, .cons (mixKind_str P w x t) rfl h3, by rw [List.map_cons, List.map_cons, h4], by rw [List.map_cons, List.map_cons, h5], fun K α H => ⟨_, _, rfl, rfl, h6 K α H⟩⟩
    rcases List.mem_cons.1 he with rfl | he
    · exact ⟨.inr x, mixKind_str P w x t, rfl⟩
    · exact h1 e he
theorem const_dct {P : Program} {w : World} {K : PySem.W.Frag} {a : Addr} {es : List DictEntry} {ep : Nat} {kvs : List (Key × M)} (hl : K.lookup a = some { cls := .type "dict", data := .dict es.toArray ep }) (h : ∃ ws vs, DctE P w kvs es ws vs) (hn : (kvs.map (·.1)).Nodup) : ConstD P w K kvs (.ref a) := by
  obtain ⟨ws, vs, h⟩ := h
  obtain ⟨h1, h2, h3, h4, h5, h6⟩ := h.all
  exact ⟨a, _, es.toArray, ep, ws, vs, rfl, hl, ⟨rfl, rfl, rfl⟩, rfl, (fun e he => h1 e (by simpa using he)), h2, (by simpa using h3), by rw [h4]; exact hn, h5, h6 K⟩
section
variable {X : Cx} {b : Expr} {tb : TE} {mb : FE} {pos p : Pos} {x : Str} {u : Value}
def tIxD (ws : List (Key × V)) (tb : TE) : TE := fun σ H Q => tb σ H fun y H1 => ∃ k v, y = kV k ∧ valV ws k = some v ∧ Q v H1
theorem pe_ixD {a : Addr} {o : Obj} {es : Array DictEntry} {ep : Nat} {ws : List (Key × V)} {vs : List (Key × Value)} (q : NmOk X.env.scope x .globalImplicit) (hm : X.mg x = some (.ref a))
    (hk : X.K.lookup a = some o) (hx : o.ExactDict) (hd : o.data = .dict es ep) (ho : KeysOf (mixKind X.prog X.w) es) (rel : KV ws vs) (hp : Pairs (mixKind X.prog X.w) es.toList vs) (hn : (vs.map (·.1)).Nodup) (hb : PE X b tb) (hs : PlainIx b) :
    PE X (.Subscript (.Name x p) b pos) (tIxD ws tb) := by
  intro pins s σ H Q I h
  refine Subscript_ (thn (pe_globk (v := .ref a) q hm rfl pins s σ H (fun v H1 => v = .ref a ∧ tIxD ws tb σ H1 Q) I ⟨rfl, h⟩) fun v0 s0 ⟨x0, H0, I0, r0, e0, q0⟩ => ?_)
  subst e0
  cases (show v0 = Value.ref a from r0)
  refine thn (hb pins s0 σ H0 _ I0 q0) fun u s1 ⟨y, H1, I1, r1, k, v, ey, ev, q1⟩ => ?_
  have hget : s1.heap.get? a = some o := I1.kIn a o hk
  have dd : s1.heap.DictOf (mixKind X.prog X.w) a vs := ⟨o, es, ep, hget, hx, hd, ho, hp, hn⟩
  have hT : s1.TypeIs (.ref a) "dict" := dd.typeIs
  unfold subscriptTail
  refine wpAny_bind ?_
  rw [getitemInPython_of_ne hT.not_modules]
  refine wpAny_bind (wpAny_specialOf hT PySem.F.slot_dict_getitem.lookup ?_)
  subst ey
  obtain ⟨w', hw, rw'⟩ := RelO.some_of (v := v) (o := valueAt vs k) (by rw [← ev]; exact rel.val k)
  have fin : wpAny (model X.prog X.w) X.A (subscripted b false (.ref a) u) (fun r s₃ => wpAny (model X.prog X.w) X.A (letTemporaryGo (.Name x p) (.ref a) r >>= fun _ => pure r) (EP X pins σ Q) X.xe s₃) X.xe s1 := by
    rw [hs _ _]
    exact wpAny_operating (wpAny_mono (wpAny_getItem_of (kV_is r1) dd.mapOf hw (⟨v, H1, I1.tok _, rw', q1⟩ : EP X pins σ Q w' _)) (fun r s₃ h₃ => wpAny_bind (wpAny_letTemporaryGo (wpAny_pure h₃))) fun _ _ x => x)
  first
    | exact wpAny_pure (wpAny_bind fin)
    | exact wpAny_bind (wpAny_pure (wpAny_bind fin))
    | exact wpAny_bind fin
def mIxD (kvs : List (Key × M)) (mb : FE) : FE := fun ρ h => bnd (mb ρ h) fun y h1 => (keyM y).bind fun k => (valM kvs k).map (·, h1)
theorem me_ixD {kvs : List (Key × M)} (q : NmOk X.env.scope x .globalImplicit) (hm : X.mg x = some u) (hc : ConstD X.prog X.w X.K kvs u) (hb : PE X b (tM X.K mb)) (hs : PlainIx b) : PE X (.Subscript (.Name x p) b pos) (tM X.K (mIxD kvs mb)) := by
  obtain ⟨a, o, es, ep, ws, vs, rfl, hk, hx, hd, ho, rel, hp, hn, ek, rs⟩ := hc
  refine (pe_ixD q hm hk hx hd ho rel hp hn hb hs).imp fun σ H Q ⟨α, ρ, h, d, h', hσ, hr, e, k⟩ => ?_
  obtain ⟨y, h1, e1, e⟩ := bnd_inv e
  obtain ⟨key, e2, e⟩ := Option.bind_eq_some_iff.mp e
  obtain ⟨e3, e4⟩ := map_inv e
  dsimp only at e3 e4
  subst e4
  refine ⟨α, ρ, h, y, _, hσ, hr, e1, fun α1 H1 v ev1 hr1 rv => ?_⟩
  obtain ⟨w, hw, rw'⟩ := (valM_rep key ek (rs α1 H1)).2 d e3
  exact ⟨key, w, keyM_rep e2 rv, hw, k α1 H1 w ev1 hr1 rw'⟩
theorem e_ixD {kvs : List (Key × M)} {ρ : EnvM} {h : HpM} {R : M → HpM → Prop} (q : Ens (mb ρ h) fun y h1 => ∃ k v, keyM y = some k ∧ valM kvs k = some v ∧ R v h1) : Ens (mIxD kvs mb ρ h) R := by
  obtain ⟨y, h1, e, k, v, e1, e2, q⟩ := q
  exact ⟨v, h1, by unfold mIxD; rw [e]; simp [bnd, e1, e2], q⟩
end
end L2
namespace L2
open PySem PySem.Spec PyProof.Rows
def Itv (K : PySem.W.Frag) (a : Addr) (n : Nat) : It :=
  ⟨fun i H => ∃ xs x, SqT K H a xs ∧ xs.length = n ∧ xs.reverse[i]? = some x, fun i H x H' => H' = H ∧ ∀ xs, SqT K H a xs → xs.reverse[i]? = some x, fun i H => ∃ xs, SqT K H a xs ∧ xs.length = n ∧ i = n⟩
theorem turn_rev {P : Program} {w : World} {K : PySem.W.Frag} {tg : Expr} (a it : Addr) (n : Nat) : Turn P w K tg (Itv K a n) [it] it (fun i h => ST.IsRv h it a ((n : Int) - 1 - (i : Int))) where
  mem := by simp
  obj := fun i h st b hb => by
    have e : b = it := by simpa using hb
    subst e
    obtain ⟨o, e, c, d⟩ := st
    exact ⟨o, e, fun v z => by rw [d] at z; cases z⟩
  keep := fun i h h' st k => st.at fun o e => k it (by simp) o e
  item := by
    intro X hP hw hK hc i pins s σ H E I hf st hg
    subst hP hw hK
    obtain ⟨xs, x, hq, hn, hx⟩ := hg
    obtain ⟨its, rv, p, hz⟩ := I.tuple hq
    have hl := rv.length
    have hi : i < xs.length := by
      have := (List.getElem?_eq_some_iff.mp hx).1
      simpa using this
    have hx' : xs[n - 1 - i]? = some x := by
      rw [List.getElem?_reverse hi, hn] at hx
      exact hx
    obtain ⟨u, hu, ru⟩ := rv.get hx'
    obtain ⟨f0, f1, f2, f3, f4, f5⟩ := hf it (by simp)
    have hit : ST.IsRv s.heap it a ((n - 1 - i : Nat) : Int) := by rw [show ((n - 1 - i : Nat) : Int) = (n : Int) - 1 - (i : Int) by omega]; exact st
    refine ST.rv_item hit p (x := u) (by simpa using hu) (by rw [List.size_toArray, ← hl]; exact hz) fun h' tk st' sb => ?_
    have I1 : Inv X pins σ H { s with heap := h', toks := tk } := I.turned (t' := tk) (fun b o hb e => (sb.2 b hb).trans e) f0 f1 f3 f4 f5
    obtain ⟨o, e, c, d⟩ := id st'
    refine ⟨u, rfl, go_of (s := { s with heap := h', toks := tk }) e c d (by decide) ⟨x, H, I1, ru, ⟨rfl, fun ys hy => by rw [I.tuple_inj hy hq]; exact hx⟩, ?_, fun b hb => (hf b hb).1⟩⟩
    show ST.IsRv h' it a ((n : Int) - 1 - ((i + 1 : Nat) : Int))
    rw [show (n : Int) - 1 - ((i + 1 : Nat) : Int) = ((n - 1 - i : Nat) : Int) - 1 by omega]
    exact st'
  done := by
    intro X hP hw hK hc i pins s σ H E I hf st hg
    subst hP hw hK
    obtain ⟨xs, hq, hn, hi⟩ := hg
    obtain ⟨f0, f1, f2, f3, f4, f5⟩ := hf it (by simp)
    have hit : ST.IsRv s.heap it a (-1) := by
      have := st
      rw [show (n : Int) - 1 - (i : Int) = -1 by omega] at this
      exact this
    exact ST.rv_end (I.ok.hd hc) hit fun h' eb => ⟨rfl, I.turned (t' := s.toks) (fun b o hb e => eb b o hb e) f0 f1 f3 f4 f5⟩
  self := fun _ _ _ _ _ st h => ST.rv_iter st h
section
variable {X : Cx} {K : PySem.W.Frag} {a tg : Expr} {ta : TE} {ma : FE} {p1 pos1 : Pos}
def iRev (K : PySem.W.Frag) (ta : TE) : TI := fun σ H R => ta σ H fun x H1 => ∃ a xs, x = .ref a ∧ SqT K H1 a xs ∧ R (Itv K a xs.length) H1
theorem pi_rev (hc : X.calm = true) (q2 : NmOk X.env.scope "reversed" .globalImplicit) (m2 : X.mg "reversed" = none) (ha : PE X a ta) (hs : notStar a = true) : PI X tg (.Call (.Name "reversed" p1) [a] [] pos1) (iRev X.K ta) := by
  intro pins s σ H R I h
  refine Call_ (ld_blt I q2.lk m2 PyProof.Rows.boot_reversed (PyProof.Rows.callWith_type1 (thn ((pa_c ha pa_nil hs) pos1 pins s σ H (fun vs H1 => match vs with | [x] => (∃ p xs, x = .ref p ∧ SqT X.K H1 p xs ∧ R (Itv X.K p xs.length) H1) | _ => False) I h) fun us s1 ⟨vs, H1, I1, r1, q⟩ => ?_) (star_cons hs) rfl))
  cases r1 with
  | nil => exact q.elim
  | cons r rr =>
    cases rr with
    | cons _ _ => exact q.elim
    | nil =>
    obtain ⟨p, xs, ex, hq, q⟩ := q
    subst ex
    cases (show _ = Value.ref p from r)
    obtain ⟨its, rv, pl, hz⟩ := I1.tuple hq
    have hz' : its.toArray.size ≤ sizeLine := by rw [List.size_toArray, ← rv.length]; exact hz
    refine ST.rv_call pl hz' fun tk => ?_
    have hit : ST.IsRv (s1.heap.push (ST.rvObj p ((its.toArray.size : Int) - 1))) s1.heap.objs.size p ((xs.length : Int) - 1 - ((0 : Nat) : Int)) := ⟨_, Heap.get?_push_size _ rfl, rfl, by
      show Data.fields _ = Data.fields _
      rw [List.size_toArray, ← rv.length]
      simp⟩
    refine ST.rv_iter (s := { s1 with heap := s1.heap.push (ST.rvObj p ((its.toArray.size : Int) - 1)), toks := tk }) hit ?_
    have fp : ∀ b ∈ [s1.heap.objs.size], FpOk X pins H1 b := fun b hb => by
      have e : b = s1.heap.objs.size := by simpa using hb
      rw [e]
      exact I1.fpOk (Nat.le_refl _) (I1.hok.fresh (Nat.le_refl _))
    exact ⟨s1.heap.objs.size, [s1.heap.objs.size], _, _, H1, rfl, I1.kept (t' := tk) fun b o e => Heap.get?_push_of_some _ e, turn_rev p _ _, hit, fp, q⟩
def iRv (a : FE) : FI := fun ρ h => bnd (a ρ h) fun x h1 => (tupM x).map fun xs => ((xs.reverse, none), h1)
theorem wk_rev {α : Pl} {H : Hp} {a : Addr} {n : Nat} {xs : List M} (hn : xs.length = n) (hs : ∀ γ, (∀ b ∈ γ, H b = none) → ∀ α1 h1 H1, Ev ⟨α.a, γ ++ α.g⟩ α1 H H1 → Rl K α1 h1 H1 → ∃ vs, SqT K H1 a vs ∧ RepAs K α1 H1 xs vs) : Wk K α H xs.reverse none (Itv K a n) := by
  intro γ hγ α1 h1 H1 ev hr ok i
  obtain ⟨vs, sq, rs⟩ := hs γ hγ α1 h1 H1 ev hr
  have hl : vs.length = n := by rw [← rs.length]; exact hn
  refine ⟨fun x hx => ?_, fun hi => ⟨vs, sq, hl, by rw [List.length_reverse] at hi; omega⟩⟩
  obtain ⟨v, hv, rv⟩ := rs.reverse.get hx
  refine ⟨⟨vs, v, sq, hl, hv⟩, fun w H2 y => ?_⟩
  obtain ⟨e1, e2⟩ := y
  subst e1
  have := e2 vs sq
  rw [hv] at this
  cases this
  exact ⟨Same.refl _, rv⟩
theorem mi_rev (hc : X.calm = true) (q2 : NmOk X.env.scope "reversed" .globalImplicit) (m2 : X.mg "reversed" = none) (ha : PE X a (tM X.K ma)) (hs : notStar a = true) : PI X tg (.Call (.Name "reversed" p1) [a] [] pos1) (iM X.K (iRv ma)) := (pi_rev hc q2 m2 ha hs).imp fun σ H R ⟨α, ρ, h, s, h', hσ, hr, e, k⟩ => by
  obtain ⟨x, h1, e1, e⟩ := bnd_inv e
  obtain ⟨xs, e2, e3⟩ := Option.map_eq_some_iff.mp e
  cases e3
  refine ⟨α, ρ, h, _, _, hσ, hr, e1, fun α1 H1 v ev1 hr1 rv => ?_⟩
  cases x <;> cases e2
  obtain ⟨a, vs, rfl, ha, rs⟩ := id rv
  refine ⟨a, vs, rfl, ha.sq, k α1 H1 _ ev1 hr1 (wk_rev rs.length fun γ hγ α2 h2 H2 ev2 hr2 => ?_)⟩
  obtain ⟨a', vs', ea, ha', rs'⟩ := (rv.hides hγ).ev ev2
  cases ea
  exact ⟨vs', ha'.sq, rs'⟩
theorem e_iRv {ρ : EnvM} {h : HpM} {s : SI} (q : Ens (ma ρ h) fun x h1 => ∃ xs, x = .tup xs ∧ s (xs.reverse, none) h1) : Ens (iRv ma ρ h) s := .bnd (q.mono fun x h1 q => by obtain ⟨xs, rfl, q⟩ := q; exact .ret q)
end
end L2

set_option maxHeartbeats 4000000
namespace K17
open PySem L2
local macro_rules | `(tactic| walk_at "n") => `(tactic| exact ⟨by decide +kernel, by decide +kernel, by decide +kernel, by decide +kernel⟩)
def top (i : Nat) : Stmt := PySem.Challenge.pw_webstore_k17_ways_turned.main.body.getD i (.Pass ⟨0, 0, 0, 0⟩)
abbrev s_is_name : Stmt := top 2
abbrev s_is_number : Stmt := top 3
abbrev s_is_way : Stmt := top 7
abbrev s_are_times : Stmt := top 8
abbrev s_tells : Stmt := top 9
abbrev s_ends : Stmt := top 10
abbrev s_ends_again : Stmt := top 11
abbrev s_ends_many : Stmt := top 12
abbrev s_merged : Stmt := top 13
abbrev s_is_step_of : Stmt := top 14
abbrev s_least_steps : Stmt := top 15
abbrev s_turned : Stmt := top 16
abbrev s_is_endless : Stmt := top 17
abbrev s_has_steps : Stmt := top 18
abbrev sLhand : Stmt := top 20
abbrev sLtake : Stmt := top 21
abbrev sLkinds : Stmt := top 22
abbrev sLleaf : Stmt := top 23
abbrev sLway : Stmt := top 24
abbrev sLboth : Stmt := top 25
abbrev sLends : Stmt := top 26
abbrev sLof : Stmt := top 27
abbrev sLtells : Stmt := top 28
abbrev sLrow_of : Stmt := top 29
abbrev sLchanged : Stmt := top 30
abbrev sLback : Stmt := top 31
abbrev sLright : Stmt := top 32
abbrev s_law : Stmt := top 33
theorem sc_is_name : FnScope ["thing"] ["thing"] (defScope s_is_name) := ⟨rfl, rfl, rfl, by decide +kernel, rfl, by decide +kernel, by decide +kernel⟩
theorem sc_is_number : FnScope ["thing"] ["thing"] (defScope s_is_number) := ⟨rfl, rfl, rfl, by decide +kernel, rfl, by decide +kernel, by decide +kernel⟩
theorem sc_is_way : FnScope ["thing", "word", "parts"] ["thing"] (defScope s_is_way) := ⟨rfl, rfl, rfl, by decide +kernel, rfl, by decide +kernel, by decide +kernel⟩
theorem sc_are_times : FnScope ["low", "high"] ["low", "high"] (defScope s_are_times) := ⟨rfl, rfl, rfl, by decide +kernel, rfl, by decide +kernel, by decide +kernel⟩
theorem sc_tells : FnScope ["way", "steps"] ["way", "steps"] (defScope s_tells) := ⟨rfl, rfl, rfl, by decide +kernel, rfl, by decide +kernel, by decide +kernel⟩
theorem sc_ends : FnScope ["way", "steps", "starts", "word"] ["way", "steps", "starts"] (defScope s_ends) := ⟨rfl, rfl, rfl, by decide +kernel, rfl, by decide +kernel, by decide +kernel⟩
theorem sc_ends_again : FnScope ["way", "steps", "starts", "found", "fresh"] ["way", "steps", "starts"] (defScope s_ends_again) := ⟨rfl, rfl, rfl, by decide +kernel, rfl, by decide +kernel, by decide +kernel⟩
theorem sc_ends_many : FnScope ["way", "steps", "starts", "found", "here", "times"] ["way", "steps", "starts"] (defScope s_ends_many) := ⟨rfl, rfl, rfl, by decide +kernel, rfl, by decide +kernel, by decide +kernel⟩
theorem sc_merged : FnScope ["one", "other"] ["one", "other"] (defScope s_merged) := ⟨rfl, rfl, rfl, by decide +kernel, rfl, by decide +kernel, by decide +kernel⟩
theorem sc_is_step_of : FnScope ["way", "kind", "turn"] ["way", "kind", "turn"] (defScope s_is_step_of) := ⟨rfl, rfl, rfl, by decide +kernel, rfl, by decide +kernel, by decide +kernel⟩
theorem sc_least_steps : FnScope ["way", "word"] ["way"] (defScope s_least_steps) := ⟨rfl, rfl, rfl, by decide +kernel, rfl, by decide +kernel, by decide +kernel⟩
theorem sc_turned : FnScope ["way", "word"] ["way"] (defScope s_turned) := ⟨rfl, rfl, rfl, by decide +kernel, rfl, by decide +kernel, by decide +kernel⟩
theorem sc_is_endless : FnScope ["way", "word"] ["way"] (defScope s_is_endless) := ⟨rfl, rfl, rfl, by decide +kernel, rfl, by decide +kernel, by decide +kernel⟩
theorem sc_has_steps : FnScope ["way", "word"] ["way"] (defScope s_has_steps) := ⟨rfl, rfl, rfl, by decide +kernel, rfl, by decide +kernel, by decide +kernel⟩
theorem scLhand : FnScope ["_law_script", "_law_k", "_law_cell", "_law_folded", "_law_one"] ["_law_script", "_law_k"] (defScope sLhand) := ⟨rfl, rfl, rfl, by decide +kernel, rfl, by decide +kernel, by decide +kernel⟩
theorem scLtake : FnScope ["_law_hand_here", "_law_many", "_law_digit", "_law_c", "_law_m"] ["_law_hand_here", "_law_many"] (defScope sLtake) := ⟨rfl, rfl, rfl, by decide +kernel, rfl, by decide +kernel, by decide +kernel⟩
theorem scLkinds : FnScope ["_law_hand_here", "_law_some", "_law_first", "_law_many"] ["_law_hand_here"] (defScope sLkinds) := ⟨rfl, rfl, rfl, by decide +kernel, rfl, by decide +kernel, by decide +kernel⟩
theorem scLleaf : FnScope ["_law_hand_here", "_law_kinds_here", "_law_how", "_law_kind"] ["_law_hand_here", "_law_kinds_here"] (defScope sLleaf) := ⟨rfl, rfl, rfl, by decide +kernel, rfl, by decide +kernel, by decide +kernel⟩
theorem scLway : FnScope ["_law_hand_here", "_law_kinds_here", "_law_room", "_law_nest", "_law_how", "_law_low", "_law_high", "_law_left", "_law_one"] ["_law_hand_here", "_law_kinds_here", "_law_room", "_law_nest"] (defScope sLway) := ⟨rfl, rfl, rfl, by decide +kernel, rfl, by decide +kernel, by decide +kernel⟩
theorem scLboth : FnScope ["_law_one", "_law_other"] ["_law_one", "_law_other"] (defScope sLboth) := ⟨rfl, rfl, rfl, by decide +kernel, rfl, by decide +kernel, by decide +kernel⟩
theorem scLends : FnScope ["_law_way_here", "_law_row", "_law_begins", "_law_word", "_law_found", "_law_here", "_law_turn"] ["_law_way_here", "_law_row", "_law_begins"] (defScope sLends) := ⟨rfl, rfl, rfl, by decide +kernel, rfl, by decide +kernel, by decide +kernel⟩
theorem scLof : FnScope ["_law_way_here", "_law_step"] ["_law_way_here", "_law_step"] (defScope sLof) := ⟨rfl, rfl, rfl, by decide +kernel, rfl, by decide +kernel, by decide +kernel⟩
theorem scLtells : FnScope ["_law_way_here", "_law_row"] ["_law_way_here", "_law_row"] (defScope sLtells) := ⟨rfl, rfl, rfl, by decide +kernel, rfl, by decide +kernel, by decide +kernel⟩
theorem scLrow_of : FnScope ["_law_hand_here", "_law_way_here", "_law_kinds_here", "_law_word", "_law_kind", "_law_turn", "_law_many", "_law_row"] ["_law_hand_here", "_law_way_here", "_law_kinds_here"] (defScope sLrow_of) := ⟨rfl, rfl, rfl, by decide +kernel, rfl, by decide +kernel, by decide +kernel⟩
theorem scLchanged : FnScope ["_law_hand_here", "_law_row", "_law_kinds_here", "_law_how", "_law_step", "_law_at"] ["_law_hand_here", "_law_row", "_law_kinds_here"] (defScope sLchanged) := ⟨rfl, rfl, rfl, by decide +kernel, rfl, by decide +kernel, by decide +kernel⟩
theorem scLback : FnScope ["_law_row"] ["_law_row"] (defScope sLback) := ⟨rfl, rfl, rfl, by decide +kernel, rfl, by decide +kernel, by decide +kernel⟩
theorem scLright : FnScope ["_law_way_here", "_law_other", "_law_again", "_law_row", "_law_due"] ["_law_way_here", "_law_other", "_law_again", "_law_row"] (defScope sLright) := ⟨rfl, rfl, rfl, by decide +kernel, rfl, by decide +kernel, by decide +kernel⟩
theorem sc_law : FnScope ["_law_script", "_law_k", "_law_hand_here", "_law_kinds_here", "_law_way_here", "_law_other", "_law_again", "_law_turn", "_law_row"] ["_law_script"] (defScope s_law) := ⟨rfl, rfl, rfl, by decide +kernel, rfl, by decide +kernel, by decide +kernel⟩
theorem q3 : NmOk (defScope s_is_name) "LONGEST_NAME" .globalImplicit := (by walk_at "n")
theorem q1 : NmOk (defScope s_is_name) "all" .globalImplicit := (by walk_at "n")
theorem q5 : NmOk (defScope s_is_name) "isinstance" .globalImplicit := (by walk_at "n")
theorem q2 : NmOk (defScope s_is_name) "len" .globalImplicit := (by walk_at "n")
theorem q4 : NmOk (defScope s_is_name) "str" .globalImplicit := (by walk_at "n")
theorem q0 : NmOk (defScope s_is_name) "thing" .local := (by walk_at "n")
theorem q7 : NmOk (defScope s_is_number) "bool" .globalImplicit := (by walk_at "n")
theorem q9 : NmOk (defScope s_is_number) "int" .globalImplicit := (by walk_at "n")
theorem q8 : NmOk (defScope s_is_number) "isinstance" .globalImplicit := (by walk_at "n")
theorem q6 : NmOk (defScope s_is_number) "thing" .local := (by walk_at "n")
theorem q12 : NmOk (defScope s_is_way) "are_times" .globalImplicit := (by walk_at "n")
theorem q15 : NmOk (defScope s_is_way) "is_name" .globalImplicit := (by walk_at "n")
theorem q11 : NmOk (defScope s_is_way) "is_way" .globalImplicit := (by walk_at "n")
theorem q18 : NmOk (defScope s_is_way) "isinstance" .globalImplicit := (by walk_at "n")
theorem q13 : NmOk (defScope s_is_way) "len" .globalImplicit := (by walk_at "n")
theorem q10 : NmOk (defScope s_is_way) "parts" .local := (by walk_at "n")
theorem q16 : NmOk (defScope s_is_way) "thing" .local := (by walk_at "n")
theorem q17 : NmOk (defScope s_is_way) "tuple" .globalImplicit := (by walk_at "n")
theorem q14 : NmOk (defScope s_is_way) "word" .local := (by walk_at "n")
theorem q21 : NmOk (defScope s_are_times) "MOST_TIMES" .globalImplicit := (by walk_at "n")
theorem q20 : NmOk (defScope s_are_times) "high" .local := (by walk_at "n")
theorem q22 : NmOk (defScope s_are_times) "is_number" .globalImplicit := (by walk_at "n")
theorem q19 : NmOk (defScope s_are_times) "low" .local := (by walk_at "n")
theorem q26 : NmOk (defScope s_tells) "ends" .globalImplicit := (by walk_at "n")
theorem q24 : NmOk (defScope s_tells) "len" .globalImplicit := (by walk_at "n")
theorem q23 : NmOk (defScope s_tells) "steps" .local := (by walk_at "n")
theorem q25 : NmOk (defScope s_tells) "way" .local := (by walk_at "n")
theorem q33 : NmOk (defScope s_ends) "ends" .globalImplicit := (by walk_at "n")
theorem q32 : NmOk (defScope s_ends) "ends_again" .globalImplicit := (by walk_at "n")
theorem q30 : NmOk (defScope s_ends) "ends_many" .globalImplicit := (by walk_at "n")
theorem q34 : NmOk (defScope s_ends) "merged" .globalImplicit := (by walk_at "n")
theorem q29 : NmOk (defScope s_ends) "starts" .local := (by walk_at "n")
theorem q28 : NmOk (defScope s_ends) "steps" .cell := (by walk_at "n")
theorem q27 : NmOk (defScope s_ends) "way" .cell := (by walk_at "n")
theorem q31 : NmOk (defScope s_ends) "word" .local := (by walk_at "n")
theorem q40 : NmOk (defScope s_ends_again) "ends" .globalImplicit := (by walk_at "n")
theorem q35 : NmOk (defScope s_ends_again) "found" .cell := (by walk_at "n")
theorem q36 : NmOk (defScope s_ends_again) "fresh" .local := (by walk_at "n")
theorem q37 : NmOk (defScope s_ends_again) "merged" .globalImplicit := (by walk_at "n")
theorem q41 : NmOk (defScope s_ends_again) "starts" .local := (by walk_at "n")
theorem q39 : NmOk (defScope s_ends_again) "steps" .local := (by walk_at "n")
theorem q38 : NmOk (defScope s_ends_again) "way" .local := (by walk_at "n")
theorem q48 : NmOk (defScope s_ends_many) "ends" .globalImplicit := (by walk_at "n")
theorem q42 : NmOk (defScope s_ends_many) "found" .local := (by walk_at "n")
theorem q47 : NmOk (defScope s_ends_many) "here" .local := (by walk_at "n")
theorem q49 : NmOk (defScope s_ends_many) "merged" .globalImplicit := (by walk_at "n")
theorem q44 : NmOk (defScope s_ends_many) "range" .globalImplicit := (by walk_at "n")
theorem q50 : NmOk (defScope s_ends_many) "starts" .local := (by walk_at "n")
theorem q46 : NmOk (defScope s_ends_many) "steps" .local := (by walk_at "n")
theorem q45 : NmOk (defScope s_ends_many) "times" .local := (by walk_at "n")
theorem q43 : NmOk (defScope s_ends_many) "way" .local := (by walk_at "n")
theorem q51 : NmOk (defScope s_merged) "one" .local := (by walk_at "n")
theorem q52 : NmOk (defScope s_merged) "other" .local := (by walk_at "n")
theorem q54 : NmOk (defScope s_merged) "set" .globalImplicit := (by walk_at "n")
theorem q53 : NmOk (defScope s_merged) "sorted" .globalImplicit := (by walk_at "n")
theorem q57 : NmOk (defScope s_is_step_of) "kind" .local := (by walk_at "n")
theorem q56 : NmOk (defScope s_is_step_of) "turn" .local := (by walk_at "n")
theorem q55 : NmOk (defScope s_is_step_of) "way" .local := (by walk_at "n")
theorem q60 : NmOk (defScope s_least_steps) "least_steps" .globalImplicit := (by walk_at "n")
theorem q61 : NmOk (defScope s_least_steps) "min" .globalImplicit := (by walk_at "n")
theorem q59 : NmOk (defScope s_least_steps) "way" .local := (by walk_at "n")
theorem q58 : NmOk (defScope s_least_steps) "word" .local := (by walk_at "n")
theorem q65 : NmOk (defScope s_turned) "OTHER_TURN" .globalImplicit := (by walk_at "n")
theorem q64 : NmOk (defScope s_turned) "turned" .globalImplicit := (by walk_at "n")
theorem q63 : NmOk (defScope s_turned) "way" .local := (by walk_at "n")
theorem q62 : NmOk (defScope s_turned) "word" .local := (by walk_at "n")
theorem q69 : NmOk (defScope s_is_endless) "has_steps" .globalImplicit := (by walk_at "n")
theorem q67 : NmOk (defScope s_is_endless) "is_endless" .globalImplicit := (by walk_at "n")
theorem q66 : NmOk (defScope s_is_endless) "way" .local := (by walk_at "n")
theorem q68 : NmOk (defScope s_is_endless) "word" .local := (by walk_at "n")
theorem q72 : NmOk (defScope s_has_steps) "has_steps" .globalImplicit := (by walk_at "n")
theorem q71 : NmOk (defScope s_has_steps) "way" .local := (by walk_at "n")
theorem q70 : NmOk (defScope s_has_steps) "word" .local := (by walk_at "n")
theorem q73 : NmOk (defScope sLhand) "_law_cell" .local := (by walk_at "n")
theorem q76 : NmOk (defScope sLhand) "_law_folded" .local := (by walk_at "n")
theorem q77 : NmOk (defScope sLhand) "_law_k" .local := (by walk_at "n")
theorem q79 : NmOk (defScope sLhand) "_law_one" .local := (by walk_at "n")
theorem q78 : NmOk (defScope sLhand) "_law_script" .local := (by walk_at "n")
theorem q74 : NmOk (defScope sLhand) "abs" .globalImplicit := (by walk_at "n")
theorem q75 : NmOk (defScope sLhand) "int" .globalImplicit := (by walk_at "n")
theorem q80 : NmOk (defScope sLhand) "len" .globalImplicit := (by walk_at "n")
theorem q83 : NmOk (defScope sLtake) "_law_c" .local := (by walk_at "n")
theorem q85 : NmOk (defScope sLtake) "_law_digit" .local := (by walk_at "n")
theorem q84 : NmOk (defScope sLtake) "_law_hand_here" .local := (by walk_at "n")
theorem q81 : NmOk (defScope sLtake) "_law_m" .local := (by walk_at "n")
theorem q82 : NmOk (defScope sLtake) "_law_many" .local := (by walk_at "n")
theorem q87 : NmOk (defScope sLkinds) "_law_first" .local := (by walk_at "n")
theorem q89 : NmOk (defScope sLkinds) "_law_hand_here" .local := (by walk_at "n")
theorem q88 : NmOk (defScope sLkinds) "_law_many" .local := (by walk_at "n")
theorem q86 : NmOk (defScope sLkinds) "_law_some" .local := (by walk_at "n")
theorem q90 : NmOk (defScope sLkinds) "_law_take" .globalImplicit := (by walk_at "n")
theorem q92 : NmOk (defScope sLleaf) "_law_hand_here" .local := (by walk_at "n")
theorem q94 : NmOk (defScope sLleaf) "_law_how" .local := (by walk_at "n")
theorem q91 : NmOk (defScope sLleaf) "_law_kind" .local := (by walk_at "n")
theorem q95 : NmOk (defScope sLleaf) "_law_kinds_here" .local := (by walk_at "n")
theorem q93 : NmOk (defScope sLleaf) "_law_take" .globalImplicit := (by walk_at "n")
theorem q96 : NmOk (defScope sLleaf) "len" .globalImplicit := (by walk_at "n")
theorem q99 : NmOk (defScope sLway) "_law_hand_here" .local := (by walk_at "n")
theorem q107 : NmOk (defScope sLway) "_law_high" .local := (by walk_at "n")
theorem q97 : NmOk (defScope sLway) "_law_how" .local := (by walk_at "n")
theorem q100 : NmOk (defScope sLway) "_law_kinds_here" .local := (by walk_at "n")
theorem q108 : NmOk (defScope sLway) "_law_leaf" .globalImplicit := (by walk_at "n")
theorem q102 : NmOk (defScope sLway) "_law_left" .local := (by walk_at "n")
theorem q106 : NmOk (defScope sLway) "_law_low" .local := (by walk_at "n")
theorem q103 : NmOk (defScope sLway) "_law_nest" .local := (by walk_at "n")
theorem q98 : NmOk (defScope sLway) "_law_one" .local := (by walk_at "n")
theorem q101 : NmOk (defScope sLway) "_law_room" .local := (by walk_at "n")
theorem q105 : NmOk (defScope sLway) "_law_take" .globalImplicit := (by walk_at "n")
theorem q104 : NmOk (defScope sLway) "_law_way" .globalImplicit := (by walk_at "n")
theorem q109 : NmOk (defScope sLboth) "_law_one" .local := (by walk_at "n")
theorem q110 : NmOk (defScope sLboth) "_law_other" .local := (by walk_at "n")
theorem q112 : NmOk (defScope sLboth) "set" .globalImplicit := (by walk_at "n")
theorem q111 : NmOk (defScope sLboth) "sorted" .globalImplicit := (by walk_at "n")
theorem q122 : NmOk (defScope sLends) "_law_begins" .local := (by walk_at "n")
theorem q120 : NmOk (defScope sLends) "_law_both" .globalImplicit := (by walk_at "n")
theorem q119 : NmOk (defScope sLends) "_law_ends" .globalImplicit := (by walk_at "n")
theorem q113 : NmOk (defScope sLends) "_law_found" .cell := (by walk_at "n")
theorem q118 : NmOk (defScope sLends) "_law_here" .local := (by walk_at "n")
theorem q117 : NmOk (defScope sLends) "_law_row" .cell := (by walk_at "n")
theorem q116 : NmOk (defScope sLends) "_law_turn" .local := (by walk_at "n")
theorem q114 : NmOk (defScope sLends) "_law_way_here" .cell := (by walk_at "n")
theorem q121 : NmOk (defScope sLends) "_law_word" .local := (by walk_at "n")
theorem q115 : NmOk (defScope sLends) "range" .globalImplicit := (by walk_at "n")
theorem q124 : NmOk (defScope sLof) "_law_step" .local := (by walk_at "n")
theorem q123 : NmOk (defScope sLof) "_law_way_here" .local := (by walk_at "n")
theorem q128 : NmOk (defScope sLtells) "_law_ends" .globalImplicit := (by walk_at "n")
theorem q125 : NmOk (defScope sLtells) "_law_row" .local := (by walk_at "n")
theorem q127 : NmOk (defScope sLtells) "_law_way_here" .local := (by walk_at "n")
theorem q126 : NmOk (defScope sLtells) "len" .globalImplicit := (by walk_at "n")
theorem q133 : NmOk (defScope sLrow_of) "_law_hand_here" .local := (by walk_at "n")
theorem q139 : NmOk (defScope sLrow_of) "_law_kind" .local := (by walk_at "n")
theorem q135 : NmOk (defScope sLrow_of) "_law_kinds_here" .local := (by walk_at "n")
theorem q130 : NmOk (defScope sLrow_of) "_law_many" .local := (by walk_at "n")
theorem q129 : NmOk (defScope sLrow_of) "_law_row" .local := (by walk_at "n")
theorem q136 : NmOk (defScope sLrow_of) "_law_row_of" .globalImplicit := (by walk_at "n")
theorem q138 : NmOk (defScope sLrow_of) "_law_take" .globalImplicit := (by walk_at "n")
theorem q132 : NmOk (defScope sLrow_of) "_law_turn" .local := (by walk_at "n")
theorem q134 : NmOk (defScope sLrow_of) "_law_way_here" .local := (by walk_at "n")
theorem q137 : NmOk (defScope sLrow_of) "_law_word" .local := (by walk_at "n")
theorem q140 : NmOk (defScope sLrow_of) "len" .globalImplicit := (by walk_at "n")
theorem q131 : NmOk (defScope sLrow_of) "range" .globalImplicit := (by walk_at "n")
theorem q145 : NmOk (defScope sLchanged) "_law_at" .local := (by walk_at "n")
theorem q147 : NmOk (defScope sLchanged) "_law_hand_here" .local := (by walk_at "n")
theorem q144 : NmOk (defScope sLchanged) "_law_how" .local := (by walk_at "n")
theorem q150 : NmOk (defScope sLchanged) "_law_kinds_here" .local := (by walk_at "n")
theorem q141 : NmOk (defScope sLchanged) "_law_row" .local := (by walk_at "n")
theorem q146 : NmOk (defScope sLchanged) "_law_step" .local := (by walk_at "n")
theorem q149 : NmOk (defScope sLchanged) "_law_take" .globalImplicit := (by walk_at "n")
theorem q148 : NmOk (defScope sLchanged) "len" .globalImplicit := (by walk_at "n")
theorem q143 : NmOk (defScope sLchanged) "reversed" .globalImplicit := (by walk_at "n")
theorem q142 : NmOk (defScope sLchanged) "tuple" .globalImplicit := (by walk_at "n")
theorem q151 : NmOk (defScope sLback) "_law_row" .local := (by walk_at "n")
theorem q152 : NmOk (defScope sLback) "reversed" .globalImplicit := (by walk_at "n")
theorem q153 : NmOk (defScope sLback) "tuple" .globalImplicit := (by walk_at "n")
theorem q154 : NmOk (defScope sLright) "_law_again" .local := (by walk_at "n")
theorem q159 : NmOk (defScope sLright) "_law_back" .globalImplicit := (by walk_at "n")
theorem q157 : NmOk (defScope sLright) "_law_due" .local := (by walk_at "n")
theorem q158 : NmOk (defScope sLright) "_law_other" .local := (by walk_at "n")
theorem q155 : NmOk (defScope sLright) "_law_row" .local := (by walk_at "n")
theorem q161 : NmOk (defScope sLright) "_law_tells" .globalImplicit := (by walk_at "n")
theorem q160 : NmOk (defScope sLright) "_law_way_here" .local := (by walk_at "n")
theorem q156 : NmOk (defScope sLright) "tells" .globalImplicit := (by walk_at "n")
theorem q170 : NmOk (defScope s_law) "_law_again" .local := (by walk_at "n")
theorem q174 : NmOk (defScope s_law) "_law_changed" .globalImplicit := (by walk_at "n")
theorem q185 : NmOk (defScope s_law) "_law_hand" .globalImplicit := (by walk_at "n")
theorem q171 : NmOk (defScope s_law) "_law_hand_here" .local := (by walk_at "n")
theorem q166 : NmOk (defScope s_law) "_law_k" .local := (by walk_at "n")
theorem q184 : NmOk (defScope s_law) "_law_kinds" .globalImplicit := (by walk_at "n")
theorem q173 : NmOk (defScope s_law) "_law_kinds_here" .local := (by walk_at "n")
theorem q169 : NmOk (defScope s_law) "_law_other" .local := (by walk_at "n")
theorem q175 : NmOk (defScope s_law) "_law_right" .globalImplicit := (by walk_at "n")
theorem q172 : NmOk (defScope s_law) "_law_row" .local := (by walk_at "n")
theorem q176 : NmOk (defScope s_law) "_law_row_of" .globalImplicit := (by walk_at "n")
theorem q162 : NmOk (defScope s_law) "_law_script" .local := (by walk_at "n")
theorem q181 : NmOk (defScope s_law) "_law_take" .globalImplicit := (by walk_at "n")
theorem q167 : NmOk (defScope s_law) "_law_turn" .local := (by walk_at "n")
theorem q183 : NmOk (defScope s_law) "_law_way" .globalImplicit := (by walk_at "n")
theorem q168 : NmOk (defScope s_law) "_law_way_here" .local := (by walk_at "n")
theorem q182 : NmOk (defScope s_law) "int" .globalImplicit := (by walk_at "n")
theorem q177 : NmOk (defScope s_law) "is_endless" .globalImplicit := (by walk_at "n")
theorem q179 : NmOk (defScope s_law) "is_way" .globalImplicit := (by walk_at "n")
theorem q178 : NmOk (defScope s_law) "least_steps" .globalImplicit := (by walk_at "n")
theorem q163 : NmOk (defScope s_law) "len" .globalImplicit := (by walk_at "n")
theorem q164 : NmOk (defScope s_law) "min" .globalImplicit := (by walk_at "n")
theorem q165 : NmOk (defScope s_law) "range" .globalImplicit := (by walk_at "n")
theorem q180 : NmOk (defScope s_law) "turned" .globalImplicit := (by walk_at "n")
def k_LONGEST_NAME : M := .int 8
def k_MOST_TIMES : M := .int 6
def k_OTHER_TURN : List (Key × M) := [(.inr "forth", .str "back"), (.inr "back", .str "forth"), (.inr "either", .str "either")]
structure Adr where
 f_is_name : Addr
 d_is_name : FuncData
 f_is_number : Addr
 d_is_number : FuncData
 f_is_way : Addr
 d_is_way : FuncData
 f_are_times : Addr
 d_are_times : FuncData
 f_tells : Addr
 d_tells : FuncData
 f_ends : Addr
 d_ends : FuncData
 f_ends_again : Addr
 d_ends_again : FuncData
 f_ends_many : Addr
 d_ends_many : FuncData
 f_merged : Addr
 d_merged : FuncData
 f_is_step_of : Addr
 d_is_step_of : FuncData
 f_least_steps : Addr
 d_least_steps : FuncData
 f_turned : Addr
 d_turned : FuncData
 f_is_endless : Addr
 d_is_endless : FuncData
 f_has_steps : Addr
 d_has_steps : FuncData
 fLhand : Addr
 dLhand : FuncData
 fLtake : Addr
 dLtake : FuncData
 fLkinds : Addr
 dLkinds : FuncData
 fLleaf : Addr
 dLleaf : FuncData
 fLway : Addr
 dLway : FuncData
 fLboth : Addr
 dLboth : FuncData
 fLends : Addr
 dLends : FuncData
 fLof : Addr
 dLof : FuncData
 fLtells : Addr
 dLtells : FuncData
 fLrow_of : Addr
 dLrow_of : FuncData
 fLchanged : Addr
 dLchanged : FuncData
 fLback : Addr
 dLback : FuncData
 fLright : Addr
 dLright : FuncData
 f_law : Addr
 d_law : FuncData
 u_LONGEST_NAME : Value
 u_MOST_TIMES : Value
 u_OTHER_TURN : Value
structure Txt (P : Program) (w : World) (K : PySem.W.Frag) (mg : Str → Option Value) (t : Adr) : Prop where
 F_is_name : Fun K "is_name" "is_name" s_is_name t.f_is_name t.d_is_name
 b_is_name : Binds K t.d_is_name ["thing"] []
 m_is_name : mg "is_name" = some (.ref t.f_is_name)
 F_is_number : Fun K "is_number" "is_number" s_is_number t.f_is_number t.d_is_number
 b_is_number : Binds K t.d_is_number ["thing"] []
 m_is_number : mg "is_number" = some (.ref t.f_is_number)
 F_is_way : Fun K "is_way" "is_way" s_is_way t.f_is_way t.d_is_way
 b_is_way : Binds K t.d_is_way ["thing"] []
 m_is_way : mg "is_way" = some (.ref t.f_is_way)
 F_are_times : Fun K "are_times" "are_times" s_are_times t.f_are_times t.d_are_times
 b_are_times : Binds K t.d_are_times ["low", "high"] []
 m_are_times : mg "are_times" = some (.ref t.f_are_times)
 F_tells : Fun K "tells" "tells" s_tells t.f_tells t.d_tells
 b_tells : Binds K t.d_tells ["way", "steps"] []
 m_tells : mg "tells" = some (.ref t.f_tells)
 F_ends : Fun K "ends" "ends" s_ends t.f_ends t.d_ends
 b_ends : Binds K t.d_ends ["way", "steps", "starts"] []
 m_ends : mg "ends" = some (.ref t.f_ends)
 F_ends_again : Fun K "ends_again" "ends_again" s_ends_again t.f_ends_again t.d_ends_again
 b_ends_again : Binds K t.d_ends_again ["way", "steps", "starts"] []
 m_ends_again : mg "ends_again" = some (.ref t.f_ends_again)
 F_ends_many : Fun K "ends_many" "ends_many" s_ends_many t.f_ends_many t.d_ends_many
 b_ends_many : Binds K t.d_ends_many ["way", "steps", "starts"] []
 m_ends_many : mg "ends_many" = some (.ref t.f_ends_many)
 F_merged : Fun K "merged" "merged" s_merged t.f_merged t.d_merged
 b_merged : Binds K t.d_merged ["one", "other"] []
 m_merged : mg "merged" = some (.ref t.f_merged)
 F_is_step_of : Fun K "is_step_of" "is_step_of" s_is_step_of t.f_is_step_of t.d_is_step_of
 b_is_step_of : Binds K t.d_is_step_of ["way", "kind", "turn"] []
 m_is_step_of : mg "is_step_of" = some (.ref t.f_is_step_of)
 F_least_steps : Fun K "least_steps" "least_steps" s_least_steps t.f_least_steps t.d_least_steps
 b_least_steps : Binds K t.d_least_steps ["way"] []
 m_least_steps : mg "least_steps" = some (.ref t.f_least_steps)
 F_turned : Fun K "turned" "turned" s_turned t.f_turned t.d_turned
 b_turned : Binds K t.d_turned ["way"] []
 m_turned : mg "turned" = some (.ref t.f_turned)
 F_is_endless : Fun K "is_endless" "is_endless" s_is_endless t.f_is_endless t.d_is_endless
 b_is_endless : Binds K t.d_is_endless ["way"] []
 m_is_endless : mg "is_endless" = some (.ref t.f_is_endless)
 F_has_steps : Fun K "has_steps" "has_steps" s_has_steps t.f_has_steps t.d_has_steps
 b_has_steps : Binds K t.d_has_steps ["way"] []
 m_has_steps : mg "has_steps" = some (.ref t.f_has_steps)
 FLhand : Fun K "_law_hand" "_law_hand" sLhand t.fLhand t.dLhand
 bLhand : Binds K t.dLhand ["_law_script", "_law_k"] []
 mLhand : mg "_law_hand" = some (.ref t.fLhand)
 FLtake : Fun K "_law_take" "_law_take" sLtake t.fLtake t.dLtake
 bLtake : Binds K t.dLtake ["_law_hand_here", "_law_many"] []
 mLtake : mg "_law_take" = some (.ref t.fLtake)
 FLkinds : Fun K "_law_kinds" "_law_kinds" sLkinds t.fLkinds t.dLkinds
 bLkinds : Binds K t.dLkinds ["_law_hand_here"] []
 mLkinds : mg "_law_kinds" = some (.ref t.fLkinds)
 FLleaf : Fun K "_law_leaf" "_law_leaf" sLleaf t.fLleaf t.dLleaf
 bLleaf : Binds K t.dLleaf ["_law_hand_here", "_law_kinds_here"] []
 mLleaf : mg "_law_leaf" = some (.ref t.fLleaf)
 FLway : Fun K "_law_way" "_law_way" sLway t.fLway t.dLway
 bLway : Binds K t.dLway ["_law_hand_here", "_law_kinds_here", "_law_room", "_law_nest"] []
 mLway : mg "_law_way" = some (.ref t.fLway)
 FLboth : Fun K "_law_both" "_law_both" sLboth t.fLboth t.dLboth
 bLboth : Binds K t.dLboth ["_law_one", "_law_other"] []
 mLboth : mg "_law_both" = some (.ref t.fLboth)
 FLends : Fun K "_law_ends" "_law_ends" sLends t.fLends t.dLends
 bLends : Binds K t.dLends ["_law_way_here", "_law_row", "_law_begins"] []
 mLends : mg "_law_ends" = some (.ref t.fLends)
 FLof : Fun K "_law_of" "_law_of" sLof t.fLof t.dLof
 bLof : Binds K t.dLof ["_law_way_here", "_law_step"] []
 mLof : mg "_law_of" = some (.ref t.fLof)
 FLtells : Fun K "_law_tells" "_law_tells" sLtells t.fLtells t.dLtells
 bLtells : Binds K t.dLtells ["_law_way_here", "_law_row"] []
 mLtells : mg "_law_tells" = some (.ref t.fLtells)
 FLrow_of : Fun K "_law_row_of" "_law_row_of" sLrow_of t.fLrow_of t.dLrow_of
 bLrow_of : Binds K t.dLrow_of ["_law_hand_here", "_law_way_here", "_law_kinds_here"] []
 mLrow_of : mg "_law_row_of" = some (.ref t.fLrow_of)
 FLchanged : Fun K "_law_changed" "_law_changed" sLchanged t.fLchanged t.dLchanged
 bLchanged : Binds K t.dLchanged ["_law_hand_here", "_law_row", "_law_kinds_here"] []
 mLchanged : mg "_law_changed" = some (.ref t.fLchanged)
 FLback : Fun K "_law_back" "_law_back" sLback t.fLback t.dLback
 bLback : Binds K t.dLback ["_law_row"] []
 mLback : mg "_law_back" = some (.ref t.fLback)
 FLright : Fun K "_law_right" "_law_right" sLright t.fLright t.dLright
 bLright : Binds K t.dLright ["_law_way_here", "_law_other", "_law_again", "_law_row"] []
 mLright : mg "_law_right" = some (.ref t.fLright)
 F_law : Fun K "law" "law" s_law t.f_law t.d_law
 b_law : Binds K t.d_law ["_law_script"] []
 m_law : mg "law" = some (.ref t.f_law)
 z_abs : mg "abs" = none
 z_all : mg "all" = none
 z_bool : mg "bool" = none
 z_int : mg "int" = none
 z_isinstance : mg "isinstance" = none
 z_len : mg "len" = none
 z_min : mg "min" = none
 z_range : mg "range" = none
 z_reversed : mg "reversed" = none
 z_set : mg "set" = none
 z_sorted : mg "sorted" = none
 z_str : mg "str" = none
 z_tuple : mg "tuple" = none
 c_LONGEST_NAME : mg "LONGEST_NAME" = some t.u_LONGEST_NAME
 r_LONGEST_NAME : ConstM K k_LONGEST_NAME t.u_LONGEST_NAME
 c_MOST_TIMES : mg "MOST_TIMES" = some t.u_MOST_TIMES
 r_MOST_TIMES : ConstM K k_MOST_TIMES t.u_MOST_TIMES
 c_OTHER_TURN : mg "OTHER_TURN" = some t.u_OTHER_TURN
 d_OTHER_TURN : ConstD P w K k_OTHER_TURN t.u_OTHER_TURN
noncomputable def b_is_name : FS :=
 (sSeq (sIf (tOrM (tNotM (tV (mCB bInst (mCons (mVar 0) (mCons (mC (.ty "str")) mNil))))) (tNotM (tV (mChain opLe opLe (mC (.int 1)) (mCB bLen (mCons (mVar 0) mNil)) (mC k_LONGEST_NAME))))) (sRet (mC (.bl false))) sNext)
 (sRet (mCB bAll (mCons (mComp [none] (iS (mVar 0)) (gNm 0) tTrueM (mChain opLe opLe (mC (.str "a")) (mVar 0) (mC (.str "z")))) mNil))))
noncomputable def m_is_name : FF := mFun 1 0 b_is_name
noncomputable def b_is_number : FS :=
 (sRet (mAnd (mCB bInst (mCons (mVar 0) (mCons (mC (.ty "int")) mNil))) (mNot (mCB bInst (mCons (mVar 0) (mCons (mC (.ty "bool")) mNil))))))
noncomputable def m_is_number : FF := mFun 1 0 b_is_number
noncomputable def b_are_times : FS :=
 (sRet (mAnd (mCall m_is_number (mCons (mVar 0) mNil)) (mAnd (mCall m_is_number (mCons (mVar 1) mNil)) (mChain3 opLe opLe opLe (mC (.int 0)) (mVar 0) (mVar 1) (mC k_MOST_TIMES)))))
noncomputable def m_are_times : FF := mFun 2 0 b_are_times
noncomputable def b_is_way (rec : FF) : FS :=
 (sSeq (sIf (tOrM (tNotM (tV (mCB bInst (mCons (mVar 0) (mCons (mC (.ty "tuple")) mNil))))) (tV (mOp opEq (mCB bLen (mCons (mVar 0) mNil)) (mC (.int 0))))) (sRet (mC (.bl false))) sNext)
 (sSeq (sAsg (mOp ixM (mVar 0) (mC (.int 0))) (gNm 1))
 (sSeq (sAsg (mSl slM (mVar 0) (oSome (mC (.int 1))) oNo) (gNm 2))
 (sSeq (sIf (tV (mOp opEq (mVar 1) (mC (.str "step")))) (sRet (mAnd (mOp opEq (mCB bLen (mCons (mVar 2) mNil)) (mC (.int 2))) (mAnd (mOr (mOp opIs (mOp ixM (mVar 2) (mC (.int 0))) (mC .non)) (mCall m_is_name (mCons (mOp ixM (mVar 2) (mC (.int 0))) mNil))) (mOp opIn (mOp ixM (mVar 2) (mC (.int 1))) (mTup (mCons (mC (.str "forth")) (mCons (mC (.str "back")) (mCons (mC (.str "either")) mNil)))))))) sNext)
 (sSeq (sIf (tV (mOp opEq (mVar 1) (mC (.str "empty")))) (sRet (mOp opEq (mCB bLen (mCons (mVar 2) mNil)) (mC (.int 0)))) sNext)
 (sSeq (sIf (tV (mOp opIn (mVar 1) (mTup (mCons (mC (.str "then")) (mCons (mC (.str "or")) mNil))))) (sRet (mAnd (mOp opEq (mCB bLen (mCons (mVar 2) mNil)) (mC (.int 2))) (mAnd (mCall rec (mCons (mOp ixM (mVar 2) (mC (.int 0))) mNil)) (mCall rec (mCons (mOp ixM (mVar 2) (mC (.int 1))) mNil))))) sNext)
 (sSeq (sIf (tV (mOp opEq (mVar 1) (mC (.str "again")))) (sRet (mAnd (mOp opEq (mCB bLen (mCons (mVar 2) mNil)) (mC (.int 1))) (mCall rec (mCons (mOp ixM (mVar 2) (mC (.int 0))) mNil)))) sNext)
 (sRet (mAnd (mOp opEq (mVar 1) (mC (.str "many"))) (mAnd (mOp opEq (mCB bLen (mCons (mVar 2) mNil)) (mC (.int 3))) (mAnd (mCall m_are_times (mCons (mOp ixM (mVar 2) (mC (.int 1))) (mCons (mOp ixM (mVar 2) (mC (.int 2))) mNil))) (mCall rec (mCons (mOp ixM (mVar 2) (mC (.int 0))) mNil)))))))))))))
noncomputable def m_is_way : Nat → FF
 | 0 => fun _ _ => none
 | n + 1 => mFun 1 2 (b_is_way (m_is_way n))
noncomputable def b_merged : FS :=
 (sRet (mSetU (mVar 0) (mVar 1)))
noncomputable def m_merged : FF := mFun 2 0 b_merged
noncomputable def b_ends_many (rec : FF) : FS :=
 (sSeq (sAsg (mLst mNil) (gNm 3))
 (sSeq (sAsg (mVar 2) (gNm 4))
 (sSeq (sFor (iR1 (mCons (mOp opAdd (mOp ixM (mVar 0) (mC (.int 3))) (mC (.int 1))) mNil)) (gNm 5) (sSeq (sIf (tV (mOp opGe (mVar 5) (mOp ixM (mVar 0) (mC (.int 2))))) (sAsg (mCall m_merged (mCons (mVar 3) (mCons (mVar 4) mNil))) (gNm 3)) sNext)
 (sAsg (mCall rec (mCons (mOp ixM (mVar 0) (mC (.int 1))) (mCons (mVar 1) (mCons (mVar 4) mNil)))) (gNm 4))))
 (sRet (mVar 3)))))
noncomputable def m_ends_many (rec : FF) : FF := mFun 3 3 (b_ends_many rec)
noncomputable def b_ends_again (rec : FF) : FS :=
 (sSeq (sAsg (mVar 2) (gNm 3))
 (sSeq (sAsg (mVar 2) (gNm 4))
 (sSeq (mWhile (tLen (mVar 4)) (sSeq (sAsg (mComp [none, some 3] (iL (mCall rec (mCons (mVar 0) (mCons (mVar 1) (mCons (mVar 4) mNil))))) (gNm 0) (tV (mOp opNotIn (mVar 0) (mVar 1))) (mVar 0)) (gNm 4))
 (sAsg (mCall m_merged (mCons (mVar 3) (mCons (mVar 4) mNil))) (gNm 3))) 1000000)
 (sRet (mVar 3)))))
noncomputable def m_ends_again (rec : FF) : FF := mFun 3 2 (b_ends_again rec)
noncomputable def b_is_step_of : FS :=
 (sRet (mAnd (mOp opIn (mOp ixM (mVar 0) (mC (.int 1))) (mTup (mCons (mC .non) (mCons (mVar 1) mNil)))) (mOp opIn (mOp ixM (mVar 0) (mC (.int 2))) (mTup (mCons (mC (.str "either")) (mCons (mVar 2) mNil))))))
noncomputable def m_is_step_of : FF := mFun 3 0 b_is_step_of
noncomputable def b_ends (rec : FF) : FS :=
 (sSeq (sAsg (mOp ixM (mVar 0) (mC (.int 0))) (gNm 3))
 (sSeq (sIf (tV (mOp opEq (mVar 3) (mC (.str "step")))) (sRet (mComp [none, some 0, some 1] (iL (mVar 2)) (gNm 0) (tAndM (tV (mOp opLt (mVar 0) (mCB bLen (mCons (mVar 2) mNil)))) (tV (mCall m_is_step_of (mCons (mVar 1) (mCons (mOp ixM (mOp ixM (mVar 2) (mVar 0)) (mC (.int 0))) (mCons (mOp ixM (mOp ixM (mVar 2) (mVar 0)) (mC (.int 1))) mNil)))))) (mOp opAdd (mVar 0) (mC (.int 1))))) sNext)
 (sSeq (sIf (tV (mOp opEq (mVar 3) (mC (.str "empty")))) (sRet (mVar 2)) sNext)
 (sSeq (sIf (tV (mOp opEq (mVar 3) (mC (.str "then")))) (sRet (mCall rec (mCons (mOp ixM (mVar 0) (mC (.int 2))) (mCons (mVar 1) (mCons (mCall rec (mCons (mOp ixM (mVar 0) (mC (.int 1))) (mCons (mVar 1) (mCons (mVar 2) mNil)))) mNil))))) sNext)
 (sSeq (sIf (tV (mOp opEq (mVar 3) (mC (.str "or")))) (sRet (mCall m_merged (mCons (mCall rec (mCons (mOp ixM (mVar 0) (mC (.int 1))) (mCons (mVar 1) (mCons (mVar 2) mNil)))) (mCons (mCall rec (mCons (mOp ixM (mVar 0) (mC (.int 2))) (mCons (mVar 1) (mCons (mVar 2) mNil)))) mNil)))) sNext)
 (sSeq (sIf (tV (mOp opEq (mVar 3) (mC (.str "again")))) (sRet (mCall (m_ends_again rec) (mCons (mOp ixM (mVar 0) (mC (.int 1))) (mCons (mVar 1) (mCons (mVar 2) mNil))))) sNext)
 (sRet (mCall (m_ends_many rec) (mCons (mVar 0) (mCons (mVar 1) (mCons (mVar 2) mNil)))))))))))
noncomputable def m_ends : Nat → FF
 | 0 => fun _ _ => none
 | n + 1 => mFun 3 1 (b_ends (m_ends n))
noncomputable def b_tells : FS :=
 (sRet (mOp opIn (mCB bLen (mCons (mVar 1) mNil)) (mCall (m_ends 12) (mCons (mVar 0) (mCons (mVar 1) (mCons (mLst (mCons (mC (.int 0)) mNil)) mNil))))))
noncomputable def m_tells : FF := mFun 2 0 b_tells
noncomputable def b_least_steps (rec : FF) : FS :=
 (sSeq (sAsg (mOp ixM (mVar 0) (mC (.int 0))) (gNm 1))
 (sSeq (sIf (tV (mOp opEq (mVar 1) (mC (.str "step")))) (sRet (mC (.int 1))) sNext)
 (sSeq (sIf (tV (mOp opEq (mVar 1) (mC (.str "then")))) (sRet (mOp opAdd (mCall rec (mCons (mOp ixM (mVar 0) (mC (.int 1))) mNil)) (mCall rec (mCons (mOp ixM (mVar 0) (mC (.int 2))) mNil)))) sNext)
 (sSeq (sIf (tV (mOp opEq (mVar 1) (mC (.str "or")))) (sRet (mCB bMin (mCons (mCall rec (mCons (mOp ixM (mVar 0) (mC (.int 1))) mNil)) (mCons (mCall rec (mCons (mOp ixM (mVar 0) (mC (.int 2))) mNil)) mNil)))) sNext)
 (sSeq (sIf (tV (mOp opEq (mVar 1) (mC (.str "many")))) (sRet (mOp opMul (mOp ixM (mVar 0) (mC (.int 2))) (mCall rec (mCons (mOp ixM (mVar 0) (mC (.int 1))) mNil)))) sNext)
 (sRet (mC (.int 0))))))))
noncomputable def m_least_steps : Nat → FF
 | 0 => fun _ _ => none
 | n + 1 => mFun 1 1 (b_least_steps (m_least_steps n))
noncomputable def b_turned (rec : FF) : FS :=
 (sSeq (sAsg (mOp ixM (mVar 0) (mC (.int 0))) (gNm 1))
 (sSeq (sIf (tV (mOp opEq (mVar 1) (mC (.str "step")))) (sRet (mTup (mCons (mC (.str "step")) (mCons (mOp ixM (mVar 0) (mC (.int 1))) (mCons (mIxD k_OTHER_TURN (mOp ixM (mVar 0) (mC (.int 2)))) mNil))))) sNext)
 (sSeq (sIf (tV (mOp opEq (mVar 1) (mC (.str "empty")))) (sRet (mVar 0)) sNext)
 (sSeq (sIf (tV (mOp opEq (mVar 1) (mC (.str "then")))) (sRet (mTup (mCons (mC (.str "then")) (mCons (mCall rec (mCons (mOp ixM (mVar 0) (mC (.int 2))) mNil)) (mCons (mCall rec (mCons (mOp ixM (mVar 0) (mC (.int 1))) mNil)) mNil))))) sNext)
 (sSeq (sIf (tV (mOp opEq (mVar 1) (mC (.str "or")))) (sRet (mTup (mCons (mC (.str "or")) (mCons (mCall rec (mCons (mOp ixM (mVar 0) (mC (.int 1))) mNil)) (mCons (mCall rec (mCons (mOp ixM (mVar 0) (mC (.int 2))) mNil)) mNil))))) sNext)
 (sRet (mOp opAdd (mTup (mCons (mVar 1) (mCons (mCall rec (mCons (mOp ixM (mVar 0) (mC (.int 1))) mNil)) mNil))) (mSl slM (mVar 0) (oSome (mC (.int 2))) oNo))))))))
noncomputable def m_turned : Nat → FF
 | 0 => fun _ _ => none
 | n + 1 => mFun 1 1 (b_turned (m_turned n))
noncomputable def b_has_steps (rec : FF) : FS :=
 (sSeq (sAsg (mOp ixM (mVar 0) (mC (.int 0))) (gNm 1))
 (sSeq (sIf (tV (mOp opIn (mVar 1) (mTup (mCons (mC (.str "then")) (mCons (mC (.str "or")) mNil))))) (sRet (mOr (mCall rec (mCons (mOp ixM (mVar 0) (mC (.int 1))) mNil)) (mCall rec (mCons (mOp ixM (mVar 0) (mC (.int 2))) mNil)))) sNext)
 (sSeq (sIf (tV (mOp opEq (mVar 1) (mC (.str "again")))) (sRet (mCall rec (mCons (mOp ixM (mVar 0) (mC (.int 1))) mNil))) sNext)
 (sSeq (sIf (tV (mOp opEq (mVar 1) (mC (.str "many")))) (sRet (mAnd (mOp opGt (mOp ixM (mVar 0) (mC (.int 3))) (mC (.int 0))) (mCall rec (mCons (mOp ixM (mVar 0) (mC (.int 1))) mNil)))) sNext)
 (sRet (mOp opEq (mVar 1) (mC (.str "step"))))))))
noncomputable def m_has_steps : Nat → FF
 | 0 => fun _ _ => none
 | n + 1 => mFun 1 1 (b_has_steps (m_has_steps n))
noncomputable def b_is_endless (rec : FF) : FS :=
 (sSeq (sAsg (mOp ixM (mVar 0) (mC (.int 0))) (gNm 1))
 (sSeq (sIf (tV (mOp opIn (mVar 1) (mTup (mCons (mC (.str "then")) (mCons (mC (.str "or")) mNil))))) (sRet (mOr (mCall rec (mCons (mOp ixM (mVar 0) (mC (.int 1))) mNil)) (mCall rec (mCons (mOp ixM (mVar 0) (mC (.int 2))) mNil)))) sNext)
 (sSeq (sIf (tV (mOp opEq (mVar 1) (mC (.str "again")))) (sRet (mCall (m_has_steps 12) (mCons (mOp ixM (mVar 0) (mC (.int 1))) mNil))) sNext)
 (sRet (mAnd (mOp opEq (mVar 1) (mC (.str "many"))) (mAnd (mOp opGt (mOp ixM (mVar 0) (mC (.int 3))) (mC (.int 0))) (mCall rec (mCons (mOp ixM (mVar 0) (mC (.int 1))) mNil))))))))
noncomputable def m_is_endless : Nat → FF
 | 0 => fun _ _ => none
 | n + 1 => mFun 1 1 (b_is_endless (m_is_endless n))
noncomputable def bLhand : FS :=
 (sSeq (sAsg (mC (.int 0)) (gNm 2))
 (sSeq (sIf (tV (mOp opLt (mVar 1) (mCB bLen (mCons (mVar 0) mNil)))) (sAsg (mOp ixM (mVar 0) (mVar 1)) (gNm 2)) sNext)
 (sSeq (sAsg (mC (.int 0)) (gNm 3))
 (sSeq (sFor (iL (mSl slM (mVar 0) oNo (oSome (mC (.int 63))))) (gNm 4) (sAsg (mOp opMod (mOp opAdd (mOp opMul (mC (.int 31)) (mVar 3)) (mVar 4)) (mC (.int 2305843009213693951))) (gNm 3)))
 (sRet (mLstH (mCons (mOp opMul (mCB bAbs (mCons (mVar 2) mNil)) (mCB bInt (mCons (mOp opGe (mCB bAbs (mCons (mVar 2) mNil)) (mOp opPow (mC (.int 10)) (mC (.int 18)))) mNil))) (mCons (mOp opAdd (mOp opAdd (mOp opMod (mOp opAdd (mVar 2) (mVar 3)) (mC (.int 2305843009213693951))) (mOp opMul (mC (.int 7919)) (mVar 1))) (mC (.int 3))) (mCons (mC (.int 0)) mNil)))))))))
noncomputable def mLhand : FF := mFun 2 3 bLhand
noncomputable def bLtake : FS :=
 (sSeq (sIf (tV (mOp opGt (mOp ixM (mVar 0) (mC (.int 0))) (mC (.int 0)))) (sSeq (sAsg (mOp opMod (mOp ixM (mVar 0) (mC (.int 0))) (mVar 1)) (gNm 2))
 (sSeq (sAsg (mOp opDiv (mOp ixM (mVar 0) (mC (.int 0))) (mVar 1)) (gSubM (mVar 0) (mC (.int 0))))
 (sRet (mVar 2)))) sNext)
 (sSeq (sAsg (mOp opAdd (mOp ixM (mVar 0) (mC (.int 2))) (mC (.int 1))) (gSubM (mVar 0) (mC (.int 2))))
 (sSeq (sAsg (mOp ixM (mVar 0) (mC (.int 2))) (gNm 3))
 (sSeq (sAsg (mOp opMod (mOp opMul (mOp ixM (mVar 0) (mC (.int 1))) (mOp opAdd (mOp opAdd (mC (.int 48271)) (mOp opMul (mOp opMul (mC (.int 2)) (mVar 3)) (mVar 3))) (mOp opMul (mC (.int 65537)) (mVar 3)))) (mC (.int 2305843009213693921))) (gNm 4))
 (sSeq (sAsg (mOp opMod (mOp opMul (mVar 4) (mOp opAdd (mOp opAdd (mOp opMod (mVar 4) (mC (.int 1000003))) (mOp opMul (mVar 3) (mC (.int 99991)))) (mC (.int 11)))) (mC (.int 2305843009213693907))) (gNm 4))
 (sRet (mOp opMod (mOp opAdd (mOp opDiv (mVar 4) (mC (.int 97))) (mOp opDiv (mVar 4) (mC (.int 1000033)))) (mVar 1))))))))
noncomputable def mLtake : FF := mFun 2 3 bLtake
noncomputable def bLkinds : FS :=
 (sSeq (sAsg (mLst (mCons (mC (.str "knows")) (mCons (mC (.str "a")) (mCons (mC (.str "aa")) (mCons (mC (.str "zebra")) (mCons (mC (.str "empty")) (mCons (mC (.str "quartzes")) (mCons (mC (.str "again")) (mCons (mC (.str "likes")) mNil))))))))) (gNm 1))
 (sSeq (sAsg (mCall mLtake (mCons (mVar 0) (mCons (mC (.int 8)) mNil))) (gNm 2))
 (sSeq (sAsg (mOp opAdd (mC (.int 1)) (mCall mLtake (mCons (mVar 0) (mCons (mC (.int 3)) mNil)))) (gNm 3))
 (sSeq (sIf (tV (mOp opEq (mCall mLtake (mCons (mVar 0) (mCons (mC (.int 8)) mNil))) (mC (.int 0)))) (sAsg (mOp opAdd (mC (.int 7)) (mCall mLtake (mCons (mVar 0) (mCons (mC (.int 2)) mNil)))) (gNm 3)) sNext)
 (sRet (mSl slM (mOp opAdd (mSl slM (mVar 1) (oSome (mVar 2)) oNo) (mSl slM (mVar 1) oNo (oSome (mVar 2)))) oNo (oSome (mVar 3))))))))
noncomputable def mLkinds : FF := mFun 1 3 bLkinds
noncomputable def bLleaf : FS :=
 (sSeq (sAsg (mCall mLtake (mCons (mVar 0) (mCons (mC (.int 9)) mNil))) (gNm 2))
 (sSeq (sIf (tV (mOp opEq (mVar 2) (mC (.int 0)))) (sRet (mTup (mCons (mC (.str "empty")) mNil))) sNext)
 (sSeq (sAsg (mOp ixM (mVar 1) (mCall mLtake (mCons (mVar 0) (mCons (mCB bLen (mCons (mVar 1) mNil)) mNil)))) (gNm 3))
 (sSeq (sIf (tV (mOp opEq (mVar 2) (mC (.int 1)))) (sAsg (mC .non) (gNm 3)) sNext)
 (sRet (mTup (mCons (mC (.str "step")) (mCons (mVar 3) (mCons (mOp ixM (mTup (mCons (mC (.str "forth")) (mCons (mC (.str "back")) (mCons (mC (.str "either")) (mCons (mC (.str "forth")) mNil))))) (mCall mLtake (mCons (mVar 0) (mCons (mC (.int 4)) mNil)))) mNil)))))))))
noncomputable def mLleaf : FF := mFun 2 2 bLleaf
noncomputable def bLway (rec : FF) : FS :=
 (sSeq (sAsg (mCall mLtake (mCons (mVar 0) (mCons (mC (.int 9)) mNil))) (gNm 4))
 (sSeq (sIf (tOrM (tV (mOp opLt (mVar 2) (mC (.int 2)))) (tOrM (tV (mOp opLt (mVar 4) (mC (.int 2)))) (tAndM (tV (mOp opLt (mVar 2) (mC (.int 3)))) (tV (mOp opEq (mVar 3) (mC (.int 0))))))) (sRet (mCall mLleaf (mCons (mVar 0) (mCons (mVar 1) mNil)))) sNext)
 (sSeq (sIf (tAndM (tOrM (tV (mOp opLt (mVar 4) (mC (.int 4)))) (tV (mOp opLt (mVar 2) (mC (.int 3))))) (tV (mOp opGt (mVar 3) (mC (.int 0))))) (sRet (mTup (mCons (mC (.str "again")) (mCons (mCall rec (mCons (mVar 0) (mCons (mVar 1) (mCons (mOp opSub (mVar 2) (mC (.int 1))) (mCons (mOp opSub (mVar 3) (mC (.int 1))) mNil))))) mNil)))) sNext)
 (sSeq (sIf (tAndM (tV (mOp opEq (mVar 4) (mC (.int 4)))) (tV (mOp opGt (mVar 3) (mC (.int 0))))) (sSeq (sAsg (mCall mLtake (mCons (mVar 0) (mCons (mC (.int 3)) mNil))) (gNm 5))
 (sSeq (sAsg (mOp opAdd (mVar 5) (mCall mLtake (mCons (mVar 0) (mCons (mOp ixM (mTup (mCons (mC (.int 2)) (mCons (mC (.int 2)) (mCons (mC (.int 4)) mNil)))) (mCall mLtake (mCons (mVar 0) (mCons (mC (.int 3)) mNil)))) mNil)))) (gNm 6))
 (sRet (mTup (mCons (mC (.str "many")) (mCons (mCall rec (mCons (mVar 0) (mCons (mVar 1) (mCons (mOp opSub (mVar 2) (mC (.int 1))) (mCons (mOp opSub (mVar 3) (mC (.int 1))) mNil))))) (mCons (mVar 5) (mCons (mVar 6) mNil)))))))) sNext)
 (sSeq (sAsg (mOp opAdd (mC (.int 1)) (mCall mLtake (mCons (mVar 0) (mCons (mOp opSub (mVar 2) (mC (.int 2))) mNil)))) (gNm 7))
 (sSeq (sAsg (mCall rec (mCons (mVar 0) (mCons (mVar 1) (mCons (mVar 7) (mCons (mVar 3) mNil))))) (gNm 8))
 (sRet (mTup (mCons (mOp ixM (mTup (mCons (mC (.str "then")) (mCons (mC (.str "or")) mNil))) (mOp opMod (mVar 4) (mC (.int 2)))) (mCons (mVar 8) (mCons (mCall rec (mCons (mVar 0) (mCons (mVar 1) (mCons (mOp opSub (mOp opSub (mVar 2) (mC (.int 1))) (mVar 7)) (mCons (mVar 3) mNil))))) mNil)))))))))))
noncomputable def mLway : Nat → FF
 | 0 => fun _ _ => none
 | n + 1 => mFun 4 5 (bLway (mLway n))
noncomputable def bLboth : FS :=
 (sRet (mUn opSet1 (mOp opAdd (mVar 0) (mVar 1))))
noncomputable def mLboth : FF := mFun 2 0 bLboth
noncomputable def bLof : FS :=
 (sRet (mAnd (mOp opIn (mOp ixM (mVar 0) (mC (.int 1))) (mTup (mCons (mC .non) (mCons (mOp ixM (mVar 1) (mC (.int 0))) mNil)))) (mOp opIn (mOp ixM (mVar 0) (mC (.int 2))) (mTup (mCons (mC (.str "either")) (mCons (mOp ixM (mVar 1) (mC (.int 1))) mNil))))))
noncomputable def mLof : FF := mFun 2 0 bLof
noncomputable def bLends (rec : FF) : FS :=
 (sSeq (sAsg (mOp ixM (mVar 0) (mC (.int 0))) (gNm 3))
 (sSeq (sIf (tV (mOp opEq (mVar 3) (mC (.str "empty")))) (sRet (mVar 2)) sNext)
 (sSeq (sIf (tV (mOp opEq (mVar 3) (mC (.str "then")))) (sRet (mCall rec (mCons (mOp ixM (mVar 0) (mC (.int 2))) (mCons (mVar 1) (mCons (mCall rec (mCons (mOp ixM (mVar 0) (mC (.int 1))) (mCons (mVar 1) (mCons (mVar 2) mNil)))) mNil))))) sNext)
 (sSeq (sIf (tV (mOp opEq (mVar 3) (mC (.str "or")))) (sRet (mCall mLboth (mCons (mCall rec (mCons (mOp ixM (mVar 0) (mC (.int 1))) (mCons (mVar 1) (mCons (mVar 2) mNil)))) (mCons (mCall rec (mCons (mOp ixM (mVar 0) (mC (.int 2))) (mCons (mVar 1) (mCons (mVar 2) mNil)))) mNil)))) sNext)
 (sSeq (sIf (tV (mOp opEq (mVar 3) (mC (.str "step")))) (sRet (mComp [none, some 0, some 1] (iL (mVar 2)) (gNm 0) (tAndM (tV (mOp opLt (mVar 0) (mCB bLen (mCons (mVar 2) mNil)))) (tV (mCall mLof (mCons (mVar 1) (mCons (mOp ixM (mVar 2) (mVar 0)) mNil))))) (mOp opAdd (mVar 0) (mC (.int 1))))) sNext)
 (sSeq (sAsg (mLst mNil) (gNm 4))
 (sSeq (sAsg (mVar 2) (gNm 5))
 (sSeq (sIf (tV (mOp opEq (mVar 3) (mC (.str "again")))) (sSeq (mWhile (tV (mOp opNe (mComp [none, some 4] (iL (mVar 5)) (gNm 0) (tV (mOp opNotIn (mVar 0) (mVar 1))) (mVar 0)) (mLst mNil))) (sSeq (sAsg (mCall mLboth (mCons (mVar 4) (mCons (mVar 5) mNil))) (gNm 4))
 (sAsg (mCall rec (mCons (mOp ixM (mVar 0) (mC (.int 1))) (mCons (mVar 1) (mCons (mVar 5) mNil)))) (gNm 5))) 1000000)
 (sRet (mVar 4))) sNext)
 (sSeq (sFor (iR1 (mCons (mOp opAdd (mOp ixM (mVar 0) (mC (.int 3))) (mC (.int 1))) mNil)) (gNm 6) (sSeq (sIf (tV (mOp opGe (mVar 6) (mOp ixM (mVar 0) (mC (.int 2))))) (sAsg (mCall mLboth (mCons (mVar 4) (mCons (mVar 5) mNil))) (gNm 4)) sNext)
 (sAsg (mCall rec (mCons (mOp ixM (mVar 0) (mC (.int 1))) (mCons (mVar 1) (mCons (mVar 5) mNil)))) (gNm 5))))
 (sRet (mVar 4)))))))))))
noncomputable def mLends : Nat → FF
 | 0 => fun _ _ => none
 | n + 1 => mFun 3 4 (bLends (mLends n))
noncomputable def bLtells : FS :=
 (sRet (mOp opIn (mCB bLen (mCons (mVar 1) mNil)) (mCall (mLends 12) (mCons (mVar 0) (mCons (mVar 1) (mCons (mLst (mCons (mC (.int 0)) mNil)) mNil))))))
noncomputable def mLtells : FF := mFun 2 0 bLtells
noncomputable def bLrow_of (rec : FF) : FS :=
 (sSeq (sAsg (mOp ixM (mVar 1) (mC (.int 0))) (gNm 3))
 (sSeq (sIf (tV (mOp opEq (mVar 3) (mC (.str "step")))) (sSeq (sPar 4 5 (mCons (mOp ixM (mVar 1) (mC (.int 1))) (mCons (mOp ixM (mVar 1) (mC (.int 2))) mNil)))
 (sSeq (sIf (tV (mOp opIs (mVar 4) (mC .non))) (sAsg (mOp ixM (mOp opAdd (mVar 2) (mLst (mCons (mC (.str "strange")) mNil))) (mCall mLtake (mCons (mVar 0) (mCons (mOp opAdd (mCB bLen (mCons (mVar 2) mNil)) (mC (.int 1))) mNil)))) (gNm 4)) sNext)
 (sSeq (sIf (tV (mOp opEq (mVar 5) (mC (.str "either")))) (sAsg (mOp ixM (mTup (mCons (mC (.str "forth")) (mCons (mC (.str "back")) mNil))) (mCall mLtake (mCons (mVar 0) (mCons (mC (.int 2)) mNil)))) (gNm 5)) sNext)
 (sRet (mTup (mCons (mTup (mCons (mVar 4) (mCons (mVar 5) mNil))) mNil)))))) sNext)
 (sSeq (sIf (tV (mOp opEq (mVar 3) (mC (.str "then")))) (sRet (mOp opAdd (mCall rec (mCons (mVar 0) (mCons (mOp ixM (mVar 1) (mC (.int 1))) (mCons (mVar 2) mNil)))) (mCall rec (mCons (mVar 0) (mCons (mOp ixM (mVar 1) (mC (.int 2))) (mCons (mVar 2) mNil)))))) sNext)
 (sSeq (sIf (tV (mOp opEq (mVar 3) (mC (.str "or")))) (sRet (mCall rec (mCons (mVar 0) (mCons (mOp ixM (mVar 1) (mOp opAdd (mC (.int 1)) (mCall mLtake (mCons (mVar 0) (mCons (mC (.int 2)) mNil))))) (mCons (mVar 2) mNil))))) sNext)
 (sSeq (sAsg (mC (.int 0)) (gNm 6))
 (sSeq (sIf (tV (mOp opEq (mVar 3) (mC (.str "again")))) (sAsg (mCall mLtake (mCons (mVar 0) (mCons (mC (.int 4)) mNil))) (gNm 6)) sNext)
 (sSeq (sIf (tV (mOp opEq (mVar 3) (mC (.str "many")))) (sAsg (mOp opAdd (mOp ixM (mVar 1) (mC (.int 2))) (mCall mLtake (mCons (mVar 0) (mCons (mOp opAdd (mOp opSub (mOp ixM (mVar 1) (mC (.int 3))) (mOp ixM (mVar 1) (mC (.int 2)))) (mC (.int 1))) mNil)))) (gNm 6)) sNext)
 (sSeq (sAsg (mTup mNil) (gNm 7))
 (sSeq (sFor (iR1 (mCons (mVar 6) mNil)) (gNm 5) (sAsg (mOp opAdd (mVar 7) (mCall rec (mCons (mVar 0) (mCons (mOp ixM (mVar 1) (mC (.int 1))) (mCons (mVar 2) mNil))))) (gNm 7)))
 (sRet (mVar 7)))))))))))
noncomputable def mLrow_of : Nat → FF
 | 0 => fun _ _ => none
 | n + 1 => mFun 3 5 (bLrow_of (mLrow_of n))
noncomputable def bLchanged : FS :=
 (sSeq (sAsg (mCall mLtake (mCons (mVar 0) (mCons (mC (.int 6)) mNil))) (gNm 3))
 (sSeq (sAsg (mTup (mCons (mOp ixM (mOp opAdd (mVar 2) (mLst (mCons (mC (.str "other")) mNil))) (mCall mLtake (mCons (mVar 0) (mCons (mOp opAdd (mCB bLen (mCons (mVar 2) mNil)) (mC (.int 1))) mNil)))) (mCons (mOp ixM (mTup (mCons (mC (.str "forth")) (mCons (mC (.str "back")) mNil))) (mCall mLtake (mCons (mVar 0) (mCons (mC (.int 2)) mNil)))) mNil))) (gNm 4))
 (sSeq (sAsg (mCall mLtake (mCons (mVar 0) (mCons (mOp opAdd (mCB bLen (mCons (mVar 1) mNil)) (mC (.int 1))) mNil))) (gNm 5))
 (sSeq (sIf (tV (mOp opEq (mVar 3) (mC (.int 0)))) (sRet (mVar 1)) sNext)
 (sSeq (sIf (tV (mOp opEq (mVar 3) (mC (.int 1)))) (sRet (mOp opAdd (mSl slM (mVar 1) oNo (oSome (mVar 5))) (mSl slM (mVar 1) (oSome (mOp opAdd (mVar 5) (mC (.int 1)))) oNo))) sNext)
 (sSeq (sIf (tV (mOp opEq (mVar 3) (mC (.int 2)))) (sRet (mOp opAdd (mOp opAdd (mSl slM (mVar 1) oNo (oSome (mVar 5))) (mSl slM (mVar 1) (oSome (mVar 5)) (oSome (mOp opAdd (mVar 5) (mC (.int 1)))))) (mSl slM (mVar 1) (oSome (mVar 5)) oNo))) sNext)
 (sSeq (sIf (tV (mOp opEq (mVar 3) (mC (.int 3)))) (sRet (mOp opAdd (mOp opAdd (mSl slM (mVar 1) oNo (oSome (mVar 5))) (mTup (mCons (mVar 4) mNil))) (mSl slM (mVar 1) (oSome (mVar 5)) oNo))) sNext)
 (sSeq (sIf (tV (mOp opEq (mVar 3) (mC (.int 4)))) (sRet (mOp opAdd (mOp opAdd (mSl slM (mVar 1) oNo (oSome (mVar 5))) (mTup (mCons (mVar 4) mNil))) (mSl slM (mVar 1) (oSome (mOp opAdd (mVar 5) (mC (.int 1)))) oNo))) sNext)
 (sRet (mUn opTupRev (mVar 1)))))))))))
noncomputable def mLchanged : FF := mFun 3 3 bLchanged
noncomputable def bLback : FS :=
 (sRet (mCB bTuple (mCons (mComp [none, none] (iRv (mVar 0)) (gTp 2 (gsCons (gNm 0) (gsCons (gNm 1) gsNil))) tTrueM (mTup (mCons (mVar 0) (mCons (mOp ixM (mDsp (mCons (mC (.str "forth")) (mCons (mC (.str "back")) (mCons (mC (.str "back")) (mCons (mC (.str "forth")) mNil))))) (mVar 1)) mNil)))) mNil)))
noncomputable def mLback : FF := mFun 1 0 bLback
noncomputable def bLright : FS :=
 (sSeq (sAsg (mCall mLtells (mCons (mVar 0) (mCons (mVar 3) mNil))) (gNm 4))
 (sRet (mAnd (mOp opEq (mCall m_tells (mCons (mVar 1) (mCons (mCall mLback (mCons (mVar 3) mNil)) mNil))) (mVar 4)) (mOp opEq (mCall m_tells (mCons (mVar 2) (mCons (mVar 3) mNil))) (mVar 4)))))
noncomputable def mLright : FF := mFun 4 1 bLright
noncomputable def b_law : FS :=
 (sSeq (sFor (iR1 (mCons (mOp opAdd (mC (.int 1)) (mCB bMin (mCons (mC (.int 2)) (mCons (mCB bLen (mCons (mVar 0) mNil)) mNil)))) mNil)) (gNm 1) (sSeq (sAsg (mCall mLhand (mCons (mVar 0) (mCons (mVar 1) mNil))) (gNm 2))
 (sSeq (sAsg (mCall mLkinds (mCons (mVar 2) mNil)) (gNm 3))
 (sSeq (sAsg (mCall (mLway 12) (mCons (mVar 2) (mCons (mVar 3) (mCons (mOp ixM (mTup (mCons (mC (.int 8)) (mCons (mC (.int 12)) mNil))) (mCB bInt (mCons (mOp opEq (mCall mLtake (mCons (mVar 2) (mCons (mC (.int 8)) mNil))) (mC (.int 0))) mNil))) (mCons (mC (.int 2)) mNil))))) (gNm 4))
 (sSeq (sAsg (mCall (m_turned 12) (mCons (mVar 4) mNil)) (gNm 5))
 (sSeq (sAsg (mCall (m_turned 12) (mCons (mVar 5) mNil)) (gNm 6))
 (sSeq (sIf (tOrM (tNotM (tV (mCall (m_is_way 12) (mCons (mVar 5) mNil)))) (tOrM (tNotM (tV (mCall (m_is_way 12) (mCons (mVar 6) mNil)))) (tNotM (tV (mCall mLright (mCons (mVar 4) (mCons (mVar 5) (mCons (mVar 6) (mCons (mTup mNil) mNil))))))))) (sRet (mC (.bl false))) sNext)
 (sSeq (sIf (tOrM (tV (mOp opNe (mCall (m_least_steps 12) (mCons (mVar 5) mNil)) (mCall (m_least_steps 12) (mCons (mVar 4) mNil)))) (tV (mOp opNe (mCall (m_is_endless 12) (mCons (mVar 5) mNil)) (mCall (m_is_endless 12) (mCons (mVar 4) mNil))))) (sRet (mC (.bl false))) sNext)
 (sFor (iR1 (mCons (mC (.int 4)) mNil)) (gNm 7) (sSeq (sAsg (mSl slM (mCall (mLrow_of 12) (mCons (mVar 2) (mCons (mVar 4) (mCons (mVar 3) mNil)))) oNo (oSome (mC (.int 40)))) (gNm 8))
 (sSeq (sIf (tNotM (tV (mCall mLright (mCons (mVar 4) (mCons (mVar 5) (mCons (mVar 6) (mCons (mVar 8) mNil))))))) (sRet (mC (.bl false))) sNext)
 (sIf (tNotM (tV (mCall mLright (mCons (mVar 4) (mCons (mVar 5) (mCons (mVar 6) (mCons (mSl slM (mCall mLchanged (mCons (mVar 2) (mCons (mVar 8) (mCons (mVar 3) mNil)))) oNo (oSome (mC (.int 40)))) mNil))))))) (sRet (mC (.bl false))) sNext))))))))))))
 (sRet (mC (.bl true))))
noncomputable def m_law : FF := mFun 1 8 b_law
end K17
set_option maxHeartbeats 8000000
namespace K17
open PySem L2
local macro_rules | `(tactic| walk_at "n") => `(tactic| exact ⟨by decide +kernel, by decide +kernel, by decide +kernel, by decide +kernel⟩)
local macro_rules | `(tactic| apply $e:term) => `(tactic| with_reducible refine' $e)
local macro_rules | `(tactic| walk_at "late") => `(tactic| first | rfl | exact True.intro | exact nomark _ | exact PassesOwn.never | exact Room.mono (by assumption) (by omega) | exact fun _ _ => rfl | (intro _; rfl) | with_unfolding_all rfl | exact Or.inl rfl | decide | simp)
section
variable {P : Program} {w : World} {K : PySem.W.Frag} {mg : Str → Option Value} {base : Heap} {t : Adr}
theorem ok_is_name (T : Txt P w K mg t) : FnOk P w K mg base CX0 1 t.f_is_name t.d_is_name ["thing"] (spM K m_is_name) := by
 refine T.F_is_name.okM (k := 0) sc_is_name rfl fun cdv A outer s H E hr => ?_
 unfold b_is_name
 conv => arg 2; whnf
 apply mss_cons ?d1 ?d2
 case' d1 => apply ms_if ?d3 ?d4 mss_nil
 case' d3 => apply PW.pt ?_
 case' d3 => apply mw_or ?d6 ?d7
 case' d6 => apply mt_not ?_
 case' d6 => apply mt_val ?d9 ?_
 case' d9 => apply me_CB call_instM fm_inst ?d10 ?d11 PyProof.Rows.boot_isinstance ?d12 ?_ ?_
 case d10 => exact q5
 case d11 => exact T.z_isinstance
 case' d12 => apply ma_2 ?d13 ?d14 ?_ ?_
 case d13 => exact (me_var (pvk 0 q0))
 case' d14 => apply me_C ?d15 ?_
 case' d15 => apply pe_bltnk (v := .ty "str") ?d16 ?d17 ?_ ?_
 case d16 => exact q4
 case d17 => exact T.z_str
 case' d7 => apply mw_or1 ?_
 case' d7 => apply mt_not ?_
 case' d7 => apply mt_chain op_leA fm_le op_leA fm_le me_int ?d20 ?d21 ?_
 case' d20 => apply me_CB call_lenM fm_len ?d22 ?d23 PySem.boot_len ?d24 ?_ ?_
 case d22 => exact q2
 case d23 => exact T.z_len
 case' d24 => apply ma_1 ?d25 ?_
 case d25 => exact (me_var (pvk 0 q0))
 case' d21 => apply me_glob ?d26 ?d27 ?d28
 case d26 => exact q3
 case d27 => exact T.c_LONGEST_NAME
 case d28 => exact T.r_LONGEST_NAME
 case' d4 => apply mss_one ?_
 case' d4 => apply ms_ret me_bl
 case' d2 => apply mss_one ?_
 case' d2 => apply ms_ret ?_
 case' d2 => apply me_CB ?d32 fm_all ?d33 ?d34 PyProof.Rows.boot_all ?d35 ?_ ?_
 case d32 => exact (call_all rfl)
 case d33 => exact q1
 case d34 => exact T.z_all
 case' d35 => apply ma_1 ?d36 ?_
 case' d36 => apply me_comp (N' := ["sign"]) (ix := [none]) ?d37 ?_ ?d38 ?d39 ?d40 ?d41 ?d42 ?_
 case d37 => exact ⟨rfl, by decide +kernel, by decide +kernel, comp_free _ _ rfl, rfl, comp_ix _ _ _ _ rfl⟩
 case' d38 => apply cg_name ?_
 case' d39 => apply mi_str ?_
 case d39 => exact (me_var (pvk 0 q0))
 case d40 => (intro _ _ _ _; exact (pgo (i := 0) (by walk_at "n") (show List.Nodup (["sign"] : List Str) from by decide +kernel) (by rfl)))
 case d41 => (intro _ _ _ _; exact mts_nil)
 case' d42 => (intro _ _ _ _; apply me_chain op_leA fm_le op_leA fm_le me_str ?d44 me_str ?_)
 case d44 => exact (me_var (pvk 0 (NmOk.own (by walk_at "n"))))
 all_goals (try walk_at "late")
theorem ok_is_number (T : Txt P w K mg t) : FnOk P w K mg base CX0 1 t.f_is_number t.d_is_number ["thing"] (spM K m_is_number) := by
 refine T.F_is_number.okM (k := 0) sc_is_number rfl fun cdv A outer s H E hr => ?_
 unfold b_is_number
 conv => arg 2; whnf
 apply mss_one ?_
 apply ms_ret ?_
 apply me_and ?d3 ?d4
 case' d3 => apply me_CB call_instM fm_inst ?d5 ?d6 PyProof.Rows.boot_isinstance ?d7 ?_ ?_
 case d5 => exact q8
 case d6 => exact T.z_isinstance
 case' d7 => apply ma_2 ?d8 ?d9 ?_ ?_
 case d8 => exact (me_var (pvk 0 q6))
 case' d9 => apply me_C ?d10 ?_
 case' d10 => apply pe_bltnk (v := .ty "int") ?d11 ?d12 ?_ ?_
 case d11 => exact q9
 case d12 => exact T.z_int
 case' d4 => apply me_one ?_
 case' d4 => apply me_not ?_
 case' d4 => apply me_CB call_instM fm_inst ?d15 ?d16 PyProof.Rows.boot_isinstance ?d17 ?_ ?_
 case d15 => exact q8
 case d16 => exact T.z_isinstance
 case' d17 => apply ma_2 ?d18 ?d19 ?_ ?_
 case d18 => exact (me_var (pvk 0 q6))
 case' d19 => apply me_C ?d20 ?_
 case' d20 => apply pe_bltnk (v := .ty "bool") ?d21 ?d22 ?_ ?_
 case d21 => exact q7
 case d22 => exact T.z_bool
 all_goals (try walk_at "late")
theorem ok_are_times (T : Txt P w K mg t) : FnOk P w K mg base CX0 2 t.f_are_times t.d_are_times ["low", "high"] (spM K m_are_times) := by
 have C_is_number := Cal.of (ok_is_number (P := P) (w := w) (base := base) T) T.m_is_number T.F_is_number.kp T.b_is_number
 refine T.F_are_times.okM (k := 1) sc_are_times rfl fun cdv A outer s H E hr => ?_
 unfold b_are_times
 conv => arg 2; whnf
 apply mss_one ?_
 apply ms_ret ?_
 apply me_and ?d3 ?d4
 case' d3 => apply me_cal ?d5 ?_ ?d6 ?d7 ?_ ?_
 case d5 => exact C_is_number
 case d6 => exact q22
 case' d7 => apply ma_1 ?d8 ?_
 case d8 => exact (me_var (pvk 0 q19))
 case' d4 => apply me_and ?d9 ?d10
 case' d9 => apply me_cal ?d11 ?_ ?d12 ?d13 ?_ ?_
 case d11 => exact C_is_number
 case d12 => exact q22
 case' d13 => apply ma_1 ?d14 ?_
 case d14 => exact (me_var (pvk 1 q20))
 case' d10 => apply me_one ?_
 case' d10 => apply me_chain3 op_leA fm_le op_leA fm_le op_leA fm_le me_int ?d16 ?d17 ?d18 ?_
 case d16 => exact (me_var (pvk 0 q19))
 case d17 => exact (me_var (pvk 1 q20))
 case' d18 => apply me_glob ?d19 ?d20 ?d21
 case d19 => exact q21
 case d20 => exact T.c_MOST_TIMES
 case d21 => exact T.r_MOST_TIMES
 all_goals (try walk_at "late")
theorem ok_is_way (T : Txt P w K mg t) (n : Nat) : FnOk P w K mg base CX0 (n + 2) t.f_is_way t.d_is_way ["thing"] (spM K (m_is_way n)) := by
 induction n with
 | zero => exact FnOk.empty
 | succ n ih =>
   have C_are_times := Cal.of (ok_are_times (P := P) (w := w) (base := base) T) T.m_are_times T.F_are_times.kp T.b_are_times
   have C_is_name := Cal.of (ok_is_name (P := P) (w := w) (base := base) T) T.m_is_name T.F_is_name.kp T.b_is_name
   have C_is_way := Cal.of ih T.m_is_way T.F_is_way.kp T.b_is_way
   refine FnOk.mono (j := n + 2 + 1) (T.F_is_way.okM (k := n + 2) sc_is_way rfl fun cdv A outer s H E hr => ?_) (by omega)
   unfold b_is_way
   conv => arg 2; whnf
   apply mss_cons ?d1 ?d2
   case' d1 => apply ms_if ?d3 ?d4 mss_nil
   case' d3 => apply PW.pt ?_
   case' d3 => apply mw_or ?d6 ?d7
   case' d6 => apply mt_not ?_
   case' d6 => apply mt_val ?d9 ?_
   case' d9 => apply me_CB call_instM fm_inst ?d10 ?d11 PyProof.Rows.boot_isinstance ?d12 ?_ ?_
   case d10 => exact q18
   case d11 => exact T.z_isinstance
   case' d12 => apply ma_2 ?d13 ?d14 ?_ ?_
   case d13 => exact (me_var (pvk 0 q16))
   case' d14 => apply me_C ?d15 ?_
   case' d15 => apply pe_bltnk (v := .ty "tuple") ?d16 ?d17 ?_ ?_
   case d16 => exact q17
   case d17 => exact T.z_tuple
   case' d7 => apply mw_or1 ?_
   case' d7 => apply mt_cmp ?d19 fm_eq ?d20 me_int ?_
   case d19 => exact (op_eqK (hu150 hr))
   case' d20 => apply me_CB call_lenM fm_len ?d21 ?d22 PySem.boot_len ?d23 ?_ ?_
   case d21 => exact q13
   case d22 => exact T.z_len
   case' d23 => apply ma_1 ?d24 ?_
   case d24 => exact (me_var (pvk 0 q16))
   case' d4 => apply mss_one ?_
   case' d4 => apply ms_ret me_bl
   case' d2 => apply mss_cons ?d26 ?d27
   case' d26 => apply ms_set (i := 1) ?d28 ?_ ?d29 ?d30 ?_ ?_
   case d28 => exact sc_is_way.nd
   case d29 => exact (Or.inl q14.lk)
   case' d30 => apply me_ix (ix_M (hu151 hr)) fm_ix ?d31 me_int ?_
   case d31 => exact (me_var (pvk 0 q16))
   case' d27 => apply mss_cons ?d32 ?d33
   case' d32 => apply ms_set (i := 2) ?d34 ?_ ?d35 ?d36 ?_ ?_
   case d34 => exact sc_is_way.nd
   case d35 => exact (Or.inl q10.lk)
   case' d36 => apply me_slice sl_M fm_sl ?d37 ?d38 mo_none
   case d37 => exact (me_var (pvk 0 q16))
   case' d38 => apply mo_some me_int
   case' d33 => apply mss_cons ?d39 ?d40
   case' d39 => apply ms_if ?d41 ?d42 mss_nil
   case' d41 => apply mt_cmp ?d43 fm_eq ?d44 me_str ?_
   case d43 => exact (op_eqK (hu150 hr))
   case d44 => exact (me_var (pvk 1 q14))
   case' d42 => apply mss_one ?_
   case' d42 => apply ms_ret ?_
   case' d42 => apply me_and ?d47 ?d48
   case' d47 => apply me_cmp ?d49 fm_eq ?d50 me_int ?_
   case d49 => exact (op_eqK (hu150 hr))
   case' d50 => apply me_CB call_lenM fm_len ?d51 ?d52 PySem.boot_len ?d53 ?_ ?_
   case d51 => exact q13
   case d52 => exact T.z_len
   case' d53 => apply ma_1 ?d54 ?_
   case d54 => exact (me_var (pvk 2 q10))
   case' d48 => apply me_and ?d55 ?d56
   case' d55 => apply me_or ?d57 ?d58
   case' d57 => apply me_cmp op_isA fm_is ?d59 me_non ?_
   case' d59 => apply me_ix (ix_M (hu151 hr)) fm_ix ?d60 me_int ?_
   case d60 => exact (me_var (pvk 2 q10))
   case' d58 => apply me_one ?_
   case' d58 => apply me_cal ?d62 ?_ ?d63 ?d64 ?_ ?_
   case d62 => exact C_is_name
   case d63 => exact q15
   case' d64 => apply ma_1 ?d65 ?_
   case' d65 => apply me_ix (ix_M (hu151 hr)) fm_ix ?d66 me_int ?_
   case d66 => exact (me_var (pvk 2 q10))
   case' d56 => apply me_one ?_
   case' d56 => apply me_cmp ?d68 fm_in ?d69 ?d70 ?_
   case d68 => exact (op_inM (hu151 hr))
   case' d69 => apply me_ix (ix_M (hu151 hr)) fm_ix ?d71 me_int ?_
   case d71 => exact (me_var (pvk 2 q10))
   case' d70 => apply me_tup ?_
   case' d70 => apply ma_3 me_str me_str me_str ?_ ?_ ?_
   case' d40 => apply mss_cons ?d73 ?d74
   case' d73 => apply ms_if ?d75 ?d76 mss_nil
   case' d75 => apply mt_cmp ?d77 fm_eq ?d78 me_str ?_
   case d77 => exact (op_eqK (hu150 hr))
   case d78 => exact (me_var (pvk 1 q14))
   case' d76 => apply mss_one ?_
   case' d76 => apply ms_ret ?_
   case' d76 => apply me_cmp ?d81 fm_eq ?d82 me_int ?_
   case d81 => exact (op_eqK (hu150 hr))
   case' d82 => apply me_CB call_lenM fm_len ?d83 ?d84 PySem.boot_len ?d85 ?_ ?_
   case d83 => exact q13
   case d84 => exact T.z_len
   case' d85 => apply ma_1 ?d86 ?_
   case d86 => exact (me_var (pvk 2 q10))
   case' d74 => apply mss_cons ?d87 ?d88
   case' d87 => apply ms_if ?d89 ?d90 mss_nil
   case' d89 => apply mt_cmp ?d91 fm_in ?d92 ?d93 ?_
   case d91 => exact (op_inM (hu151 hr))
   case d92 => exact (me_var (pvk 1 q14))
   case' d93 => apply me_tup ?_
   case' d93 => apply ma_2 me_str me_str ?_ ?_
   case' d90 => apply mss_one ?_
   case' d90 => apply ms_ret ?_
   case' d90 => apply me_and ?d97 ?d98
   case' d97 => apply me_cmp ?d99 fm_eq ?d100 me_int ?_
   case d99 => exact (op_eqK (hu150 hr))
   case' d100 => apply me_CB call_lenM fm_len ?d101 ?d102 PySem.boot_len ?d103 ?_ ?_
   case d101 => exact q13
   case d102 => exact T.z_len
   case' d103 => apply ma_1 ?d104 ?_
   case d104 => exact (me_var (pvk 2 q10))
   case' d98 => apply me_and ?d105 ?d106
   case' d105 => apply me_cal ?d107 ?_ ?d108 ?d109 ?_ ?_
   case d107 => exact C_is_way
   case d108 => exact q11
   case' d109 => apply ma_1 ?d110 ?_
   case' d110 => apply me_ix (ix_M (hu151 hr)) fm_ix ?d111 me_int ?_
   case d111 => exact (me_var (pvk 2 q10))
   case' d106 => apply me_one ?_
   case' d106 => apply me_cal ?d113 ?_ ?d114 ?d115 ?_ ?_
   case d113 => exact C_is_way
   case d114 => exact q11
   case' d115 => apply ma_1 ?d116 ?_
   case' d116 => apply me_ix (ix_M (hu151 hr)) fm_ix ?d117 me_int ?_
   case d117 => exact (me_var (pvk 2 q10))
   case' d88 => apply mss_cons ?d118 ?d119
   case' d118 => apply ms_if ?d120 ?d121 mss_nil
   case' d120 => apply mt_cmp ?d122 fm_eq ?d123 me_str ?_
   case d122 => exact (op_eqK (hu150 hr))
   case d123 => exact (me_var (pvk 1 q14))
   case' d121 => apply mss_one ?_
   case' d121 => apply ms_ret ?_
   case' d121 => apply me_and ?d126 ?d127
   case' d126 => apply me_cmp ?d128 fm_eq ?d129 me_int ?_
   case d128 => exact (op_eqK (hu150 hr))
   case' d129 => apply me_CB call_lenM fm_len ?d130 ?d131 PySem.boot_len ?d132 ?_ ?_
   case d130 => exact q13
   case d131 => exact T.z_len
   case' d132 => apply ma_1 ?d133 ?_
   case d133 => exact (me_var (pvk 2 q10))
   case' d127 => apply me_one ?_
   case' d127 => apply me_cal ?d135 ?_ ?d136 ?d137 ?_ ?_
   case d135 => exact C_is_way
   case d136 => exact q11
   case' d137 => apply ma_1 ?d138 ?_
   case' d138 => apply me_ix (ix_M (hu151 hr)) fm_ix ?d139 me_int ?_
   case d139 => exact (me_var (pvk 2 q10))
   case' d119 => apply mss_one ?_
   case' d119 => apply ms_ret ?_
   case' d119 => apply me_and ?d142 ?d143
   case' d142 => apply me_cmp ?d144 fm_eq ?d145 me_str ?_
   case d144 => exact (op_eqK (hu150 hr))
   case d145 => exact (me_var (pvk 1 q14))
   case' d143 => apply me_and ?d146 ?d147
   case' d146 => apply me_cmp ?d148 fm_eq ?d149 me_int ?_
   case d148 => exact (op_eqK (hu150 hr))
   case' d149 => apply me_CB call_lenM fm_len ?d150 ?d151 PySem.boot_len ?d152 ?_ ?_
   case d150 => exact q13
   case d151 => exact T.z_len
   case' d152 => apply ma_1 ?d153 ?_
   case d153 => exact (me_var (pvk 2 q10))
   case' d147 => apply me_and ?d154 ?d155
   case' d154 => apply me_cal ?d156 ?_ ?d157 ?d158 ?_ ?_
   case d156 => exact C_are_times
   case d157 => exact q12
   case' d158 => apply ma_2 ?d159 ?d160 ?_ ?_
   case' d159 => apply me_ix (ix_M (hu151 hr)) fm_ix ?d161 me_int ?_
   case d161 => exact (me_var (pvk 2 q10))
   case' d160 => apply me_ix (ix_M (hu151 hr)) fm_ix ?d162 me_int ?_
   case d162 => exact (me_var (pvk 2 q10))
   case' d155 => apply me_one ?_
   case' d155 => apply me_cal ?d164 ?_ ?d165 ?d166 ?_ ?_
   case d164 => exact C_is_way
   case d165 => exact q11
   case' d166 => apply ma_1 ?d167 ?_
   case' d167 => apply me_ix (ix_M (hu151 hr)) fm_ix ?d168 me_int ?_
   case d168 => exact (me_var (pvk 2 q10))
   all_goals (try walk_at "late")
theorem ok_merged (T : Txt P w K mg t) : FnOk P w K mg base CX0 1 t.f_merged t.d_merged ["one", "other"] (spM K m_merged) := by
 refine T.F_merged.okM (k := 0) sc_merged rfl fun cdv A outer s H E hr => ?_
 unfold b_merged
 conv => arg 2; whnf
 apply mss_one ?_
 apply ms_ret ?_
 apply me_sortU ?_ ?d3 ?d4 ?d5 ?d6 ?d7 ?d8 ?_ ?_
 case d3 => exact q53
 case d4 => exact T.z_sorted
 case d5 => exact q54
 case d6 => exact T.z_set
 case d7 => exact (me_var (pvk 0 q51))
 case d8 => exact (me_var (pvk 1 q52))
 all_goals (try walk_at "late")
theorem ok_ends_many (T : Txt P w K mg t) (L : Nat) (hL : 1 ≤ L) (rec : FF) (ih : FnOk P w K mg base CX0 L t.f_ends t.d_ends ["way", "steps", "starts"] (spM K rec)) : FnOk P w K mg base CX0 (L + 1) t.f_ends_many t.d_ends_many ["way", "steps", "starts"] (spM K (m_ends_many rec)) := by
 have C_merged := Cal.of (ok_merged (P := P) (w := w) (base := base) T) T.m_merged T.F_merged.kp T.b_merged
 have C_ends := Cal.of ih T.m_ends T.F_ends.kp T.b_ends
 refine T.F_ends_many.okM (k := L) sc_ends_many rfl fun cdv A outer s H E hr => ?_
 unfold b_ends_many
 conv => arg 2; whnf
 apply mss_cons ?d1 ?d2
 case' d1 => apply ms_set (i := 3) ?d3 ?_ ?d4 ?d5 ?_ ?_
 case d3 => exact sc_ends_many.nd
 case d4 => exact (Or.inl q42.lk)
 case' d5 => apply me_lst ma_nil
 case' d2 => apply mss_cons ?d6 ?d7
 case' d6 => apply ms_set (i := 4) ?d8 ?_ ?d9 ?d10 ?_ ?_
 case d8 => exact sc_ends_many.nd
 case d9 => exact (Or.inl q47.lk)
 case d10 => exact (me_var (pvk 2 q50))
 case' d7 => apply mss_cons ?d11 ?d12
 case' d11 => apply ms_for ?_ ?_ ?d13 ?d14 ?d15 ?_
 case' d13 => apply mi_range1 ?d16 ?d17 ?d18 ?_
 case d16 => exact q44.lk
 case d17 => exact T.z_range
 case' d18 => apply ma_1 ?d19 ?_
 case' d19 => apply me_op op_addM fm_add ?_ me_int
 case' d19 => apply me_ix (ix_M (hu151 hr)) fm_ix ?d21 me_int ?_
 case d21 => exact (me_var (pvk 0 q43))
 case' d14 => apply mg_name ?_
 case' d14 => apply pg_name (i := 5) ?d23 ?_ ?d24 ?_
 case d23 => exact sc_ends_many.nd
 case d24 => exact (Or.inl q45.lk)
 case' d15 => apply mss_cons ?d25 ?d26
 case' d25 => apply ms_if ?d27 ?d28 mss_nil
 case' d27 => apply mt_cmp op_geA fm_ge ?d29 ?d30 ?_
 case d29 => exact (me_var (pvk 5 q45))
 case' d30 => apply me_ix (ix_M (hu151 hr)) fm_ix ?d31 me_int ?_
 case d31 => exact (me_var (pvk 0 q43))
 case' d28 => apply mss_one ?_
 case' d28 => apply ms_set (i := 3) ?d33 ?_ ?d34 ?d35 ?_ ?_
 case d33 => exact sc_ends_many.nd
 case d34 => exact (Or.inl q42.lk)
 case' d35 => apply me_cal ?d36 ?_ ?d37 ?d38 ?_ ?_
 case d36 => exact C_merged
 case d37 => exact q49
 case' d38 => apply ma_2 ?d39 ?d40 ?_ ?_
 case d39 => exact (me_var (pvk 3 q42))
 case d40 => exact (me_var (pvk 4 q47))
 case' d26 => apply mss_one ?_
 case' d26 => apply ms_set (i := 4) ?d42 ?_ ?d43 ?d44 ?_ ?_
 case d42 => exact sc_ends_many.nd
 case d43 => exact (Or.inl q47.lk)
 case' d44 => apply me_cal ?d45 ?_ ?d46 ?d47 ?_ ?_
 case d45 => exact C_ends
 case d46 => exact q48
 case' d47 => apply ma_3 ?d48 ?d49 ?d50 ?_ ?_ ?_
 case' d48 => apply me_ix (ix_M (hu151 hr)) fm_ix ?d51 me_int ?_
 case d51 => exact (me_var (pvk 0 q43))
 case d49 => exact (me_var (pvk 1 q46))
 case d50 => exact (me_var (pvk 4 q47))
 case' d12 => apply mss_one ?_
 case' d12 => apply ms_ret ?_
 case d12 => exact (me_var (pvk 3 q42))
 all_goals (try walk_at "late")
theorem ok_ends_again (T : Txt P w K mg t) (L : Nat) (hL : 1 ≤ L) (rec : FF) (ih : FnOk P w K mg base CX0 L t.f_ends t.d_ends ["way", "steps", "starts"] (spM K rec)) : FnOk P w K mg base CX0 (L + 1) t.f_ends_again t.d_ends_again ["way", "steps", "starts"] (spM K (m_ends_again rec)) := by
 have C_merged := Cal.of (ok_merged (P := P) (w := w) (base := base) T) T.m_merged T.F_merged.kp T.b_merged
 have C_ends := Cal.of ih T.m_ends T.F_ends.kp T.b_ends
 refine T.F_ends_again.okM (k := L) sc_ends_again rfl fun cdv A outer s H E hr => ?_
 unfold b_ends_again
 conv => arg 2; whnf
 apply mss_cons ?d1 ?d2
 case' d1 => apply ms_set (i := 3) ?d3 ?_ ?d4 ?d5 ?_ ?_
 case d3 => exact sc_ends_again.nd
 case d4 => exact (Or.inr q35.lk)
 case d5 => exact (me_var (pvk 2 q41))
 case' d2 => apply mss_cons ?d6 ?d7
 case' d6 => apply ms_set (i := 4) ?d8 ?_ ?d9 ?d10 ?_ ?_
 case d8 => exact sc_ends_again.nd
 case d9 => exact (Or.inl q36.lk)
 case d10 => exact (me_var (pvk 2 q41))
 case' d7 => apply mss_cons ?d11 ?d12
 case' d11 => apply ms_while _ ?_ ?d13 ?d14
 case' d13 => apply mt_truL ?d15 ?_
 case d15 => exact (me_var (pvk 4 q36))
 case' d14 => apply mss_cons ?d16 ?d17
 case' d16 => apply ms_setC (k := 4) ?d18 ?_ ?d19 (N' := ["at", "found"]) (ix := [none, some 3]) ?d20 ?_ ?d21 ?d22 ?d23 ?d24 ?d25 ?_ ?_
 case d18 => exact sc_ends_again.nd
 case d19 => exact q36.lk
 case d20 => exact ⟨rfl, by decide +kernel, by decide +kernel, comp_free _ _ rfl, rfl, comp_ix _ _ _ _ rfl⟩
 case' d21 => apply cg_name ?_
 case' d22 => apply mi_list ?_
 case' d22 => apply me_cal ?d27 ?_ ?d28 ?d29 ?_ ?_
 case d27 => exact C_ends
 case d28 => exact q40
 case' d29 => apply ma_3 ?d30 ?d31 ?d32 ?_ ?_ ?_
 case d30 => exact (me_var (pvk 0 q38))
 case d31 => exact (me_var (pvk 1 q39))
 case d32 => exact (me_var (pvk 4 q36))
 case d23 => (intro _ _ _ _; exact (pgo (i := 0) (by walk_at "n") (show List.Nodup (["at", "found"] : List Str) from by decide +kernel) (by rfl)))
 case' d24 => (intro _ _ _ _; apply mts_one ?_)
 case' d24 => apply mt_cmp ?d34 fm_notIn ?d35 ?d36 ?_
 case d34 => exact (op_notInM (hu151 hr))
 case d35 => exact (me_var (pvk 0 (NmOk.own (by walk_at "n"))))
 case d36 => exact (me_var (pvf 1 (by walk_at "n")))
 case d25 => (intro _ _ _ _; exact (me_var (pvk 0 (NmOk.own (by walk_at "n")))))
 case' d17 => apply mss_one ?_
 case' d17 => apply ms_set (i := 3) ?d38 ?_ ?d39 ?d40 ?_ ?_
 case d38 => exact sc_ends_again.nd
 case d39 => exact (Or.inr q35.lk)
 case' d40 => apply me_cal ?d41 ?_ ?d42 ?d43 ?_ ?_
 case d41 => exact C_merged
 case d42 => exact q37
 case' d43 => apply ma_2 ?d44 ?d45 ?_ ?_
 case d44 => exact (me_var (pvk 3 q35))
 case d45 => exact (me_var (pvk 4 q36))
 case' d12 => apply mss_one ?_
 case' d12 => apply ms_ret ?_
 case d12 => exact (me_var (pvk 3 q35))
 all_goals (try walk_at "late")
theorem ok_is_step_of (T : Txt P w K mg t) : FnOk P w K mg base CX0 1 t.f_is_step_of t.d_is_step_of ["way", "kind", "turn"] (spM K m_is_step_of) := by
 refine T.F_is_step_of.okM (k := 0) sc_is_step_of rfl fun cdv A outer s H E hr => ?_
 unfold b_is_step_of
 conv => arg 2; whnf
 apply mss_one ?_
 apply ms_ret ?_
 apply me_and ?d3 ?d4
 case' d3 => apply me_cmp ?d5 fm_in ?d6 ?d7 ?_
 case d5 => exact (op_inM (hu151 hr))
 case' d6 => apply me_ix (ix_M (hu151 hr)) fm_ix ?d8 me_int ?_
 case d8 => exact (me_var (pvk 0 q55))
 case' d7 => apply me_tup ?_
 case' d7 => apply ma_2 me_non ?d10 ?_ ?_
 case d10 => exact (me_var (pvk 1 q57))
 case' d4 => apply me_one ?_
 case' d4 => apply me_cmp ?d12 fm_in ?d13 ?d14 ?_
 case d12 => exact (op_inM (hu151 hr))
 case' d13 => apply me_ix (ix_M (hu151 hr)) fm_ix ?d15 me_int ?_
 case d15 => exact (me_var (pvk 0 q55))
 case' d14 => apply me_tup ?_
 case' d14 => apply ma_2 me_str ?d17 ?_ ?_
 case d17 => exact (me_var (pvk 2 q56))
 all_goals (try walk_at "late")
theorem ok_ends (T : Txt P w K mg t) (n : Nat) : FnOk P w K mg base CX0 (2 * n + 1) t.f_ends t.d_ends ["way", "steps", "starts"] (spM K (m_ends n)) := by
 induction n with
 | zero => exact FnOk.empty
 | succ n ih =>
   have C_ends_many := Cal.of (ok_ends_many (P := P) (w := w) (base := base) T (2 * n + 1) (by omega) (m_ends n) ih) T.m_ends_many T.F_ends_many.kp T.b_ends_many
   have C_merged := Cal.of (ok_merged (P := P) (w := w) (base := base) T) T.m_merged T.F_merged.kp T.b_merged
   have C_ends_again := Cal.of (ok_ends_again (P := P) (w := w) (base := base) T (2 * n + 1) (by omega) (m_ends n) ih) T.m_ends_again T.F_ends_again.kp T.b_ends_again
   have C_is_step_of := Cal.of (ok_is_step_of (P := P) (w := w) (base := base) T) T.m_is_step_of T.F_is_step_of.kp T.b_is_step_of
   have C_ends := Cal.of ih T.m_ends T.F_ends.kp T.b_ends
   refine FnOk.mono (j := 2 * n + 2 + 1) (T.F_ends.okM (k := 2 * n + 2) sc_ends rfl fun cdv A outer s H E hr => ?_) (by omega)
   unfold b_ends
   conv => arg 2; whnf
   apply mss_cons ?d1 ?d2
   case' d1 => apply ms_set (i := 3) ?d3 ?_ ?d4 ?d5 ?_ ?_
   case d3 => exact sc_ends.nd
   case d4 => exact (Or.inl q31.lk)
   case' d5 => apply me_ix (ix_M (hu151 hr)) fm_ix ?d6 me_int ?_
   case d6 => exact (me_var (pvk 0 q27))
   case' d2 => apply mss_cons ?d7 ?d8
   case' d7 => apply ms_if ?d9 ?d10 mss_nil
   case' d9 => apply mt_cmp ?d11 fm_eq ?d12 me_str ?_
   case d11 => exact (op_eqK (hu150 hr))
   case d12 => exact (me_var (pvk 3 q31))
   case' d10 => apply mss_one ?_
   case' d10 => apply ms_ret ?_
   case' d10 => apply me_comp (N' := ["at", "way", "steps"]) (ix := [none, some 0, some 1]) ?d15 ?_ ?d16 ?d17 ?d18 ?d19 ?d20 ?_
   case d15 => exact ⟨rfl, by decide +kernel, by decide +kernel, comp_free _ _ rfl, rfl, comp_ix _ _ _ _ rfl⟩
   case' d16 => apply cg_name ?_
   case' d17 => apply mi_list ?_
   case d17 => exact (me_var (pvk 2 q29))
   case d18 => (intro _ _ _ _; exact (pgo (i := 0) (by walk_at "n") (show List.Nodup (["at", "way", "steps"] : List Str) from by decide +kernel) (by rfl)))
   case' d19 => (intro _ _ _ _; apply mts_one ?_)
   case' d19 => apply PW.pt ?_
   case' d19 => apply mw_and ?d24 ?d25
   case' d24 => apply mt_cmp op_ltA fm_lt ?d26 ?d27 ?_
   case d26 => exact (me_var (pvk 0 (NmOk.own (by walk_at "n"))))
   case' d27 => apply me_CB call_lenM fm_len ?d28 ?d29 PySem.boot_len ?d30 ?_ ?_
   case d28 => exact (NmOk.glob (by walk_at "n"))
   case d29 => exact T.z_len
   case' d30 => apply ma_1 ?d31 ?_
   case d31 => exact (me_var (pvf 2 (by walk_at "n")))
   case' d25 => apply mw_and1 ?_
   case' d25 => apply mt_val ?d33 ?_
   case' d33 => apply me_cal ?d34 ?_ ?d35 ?d36 ?_ ?_
   case d34 => exact C_is_step_of
   case d35 => exact (NmOk.glob (by walk_at "n"))
   case' d36 => apply ma_3 ?d37 ?d38 ?d39 ?_ ?_ ?_
   case d37 => exact (me_var (pvf 1 (by walk_at "n")))
   case' d38 => apply me_ix (ix_M (hu151 hr)) fm_ix ?d40 me_int ?_
   case' d40 => apply me_ix (ix_M (hu151 hr)) fm_ix ?d41 ?d42 ?_
   case d41 => exact (me_var (pvf 2 (by walk_at "n")))
   case d42 => exact (me_var (pvk 0 (NmOk.own (by walk_at "n"))))
   case' d39 => apply me_ix (ix_M (hu151 hr)) fm_ix ?d43 me_int ?_
   case' d43 => apply me_ix (ix_M (hu151 hr)) fm_ix ?d44 ?d45 ?_
   case d44 => exact (me_var (pvf 2 (by walk_at "n")))
   case d45 => exact (me_var (pvk 0 (NmOk.own (by walk_at "n"))))
   case' d20 => (intro _ _ _ _; apply me_op op_addM fm_add ?_ me_int)
   case d20 => exact (me_var (pvk 0 (NmOk.own (by walk_at "n"))))
   case' d8 => apply mss_cons ?d47 ?d48
   case' d47 => apply ms_if ?d49 ?d50 mss_nil
   case' d49 => apply mt_cmp ?d51 fm_eq ?d52 me_str ?_
   case d51 => exact (op_eqK (hu150 hr))
   case d52 => exact (me_var (pvk 3 q31))
   case' d50 => apply mss_one ?_
   case' d50 => apply ms_ret ?_
   case d50 => exact (me_var (pvk 2 q29))
   case' d48 => apply mss_cons ?d55 ?d56
   case' d55 => apply ms_if ?d57 ?d58 mss_nil
   case' d57 => apply mt_cmp ?d59 fm_eq ?d60 me_str ?_
   case d59 => exact (op_eqK (hu150 hr))
   case d60 => exact (me_var (pvk 3 q31))
   case' d58 => apply mss_one ?_
   case' d58 => apply ms_ret ?_
   case' d58 => apply me_cal ?d63 ?_ ?d64 ?d65 ?_ ?_
   case d63 => exact C_ends
   case d64 => exact q33
   case' d65 => apply ma_3 ?d66 ?d67 ?d68 ?_ ?_ ?_
   case' d66 => apply me_ix (ix_M (hu151 hr)) fm_ix ?d69 me_int ?_
   case d69 => exact (me_var (pvk 0 q27))
   case d67 => exact (me_var (pvk 1 q28))
   case' d68 => apply me_cal ?d70 ?_ ?d71 ?d72 ?_ ?_
   case d70 => exact C_ends
   case d71 => exact q33
   case' d72 => apply ma_3 ?d73 ?d74 ?d75 ?_ ?_ ?_
   case' d73 => apply me_ix (ix_M (hu151 hr)) fm_ix ?d76 me_int ?_
   case d76 => exact (me_var (pvk 0 q27))
   case d74 => exact (me_var (pvk 1 q28))
   case d75 => exact (me_var (pvk 2 q29))
   case' d56 => apply mss_cons ?d77 ?d78
   case' d77 => apply ms_if ?d79 ?d80 mss_nil
   case' d79 => apply mt_cmp ?d81 fm_eq ?d82 me_str ?_
   case d81 => exact (op_eqK (hu150 hr))
   case d82 => exact (me_var (pvk 3 q31))
   case' d80 => apply mss_one ?_
   case' d80 => apply ms_ret ?_
   case' d80 => apply me_cal ?d85 ?_ ?d86 ?d87 ?_ ?_
   case d85 => exact C_merged
   case d86 => exact q34
   case' d87 => apply ma_2 ?d88 ?d89 ?_ ?_
   case' d88 => apply me_cal ?d90 ?_ ?d91 ?d92 ?_ ?_
   case d90 => exact C_ends
   case d91 => exact q33
   case' d92 => apply ma_3 ?d93 ?d94 ?d95 ?_ ?_ ?_
   case' d93 => apply me_ix (ix_M (hu151 hr)) fm_ix ?d96 me_int ?_
   case d96 => exact (me_var (pvk 0 q27))
   case d94 => exact (me_var (pvk 1 q28))
   case d95 => exact (me_var (pvk 2 q29))
   case' d89 => apply me_cal ?d97 ?_ ?d98 ?d99 ?_ ?_
   case d97 => exact C_ends
   case d98 => exact q33
   case' d99 => apply ma_3 ?d100 ?d101 ?d102 ?_ ?_ ?_
   case' d100 => apply me_ix (ix_M (hu151 hr)) fm_ix ?d103 me_int ?_
   case d103 => exact (me_var (pvk 0 q27))
   case d101 => exact (me_var (pvk 1 q28))
   case d102 => exact (me_var (pvk 2 q29))
   case' d78 => apply mss_cons ?d104 ?d105
   case' d104 => apply ms_if ?d106 ?d107 mss_nil
   case' d106 => apply mt_cmp ?d108 fm_eq ?d109 me_str ?_
   case d108 => exact (op_eqK (hu150 hr))
   case d109 => exact (me_var (pvk 3 q31))
   case' d107 => apply mss_one ?_
   case' d107 => apply ms_ret ?_
   case' d107 => apply me_cal ?d112 ?_ ?d113 ?d114 ?_ ?_
   case d112 => exact C_ends_again
   case d113 => exact q32
   case' d114 => apply ma_3 ?d115 ?d116 ?d117 ?_ ?_ ?_
   case' d115 => apply me_ix (ix_M (hu151 hr)) fm_ix ?d118 me_int ?_
   case d118 => exact (me_var (pvk 0 q27))
   case d116 => exact (me_var (pvk 1 q28))
   case d117 => exact (me_var (pvk 2 q29))
   case' d105 => apply mss_one ?_
   case' d105 => apply ms_ret ?_
   case' d105 => apply me_cal ?d121 ?_ ?d122 ?d123 ?_ ?_
   case d121 => exact C_ends_many
   case d122 => exact q30
   case' d123 => apply ma_3 ?d124 ?d125 ?d126 ?_ ?_ ?_
   case d124 => exact (me_var (pvk 0 q27))
   case d125 => exact (me_var (pvk 1 q28))
   case d126 => exact (me_var (pvk 2 q29))
   all_goals (try walk_at "late")
theorem ok_tells (T : Txt P w K mg t) : FnOk P w K mg base CX0 26 t.f_tells t.d_tells ["way", "steps"] (spM K m_tells) := by
 have C_ends := Cal.of (ok_ends (P := P) (w := w) (base := base) T 12) T.m_ends T.F_ends.kp T.b_ends
 refine T.F_tells.okM (k := 25) sc_tells rfl fun cdv A outer s H E hr => ?_
 unfold b_tells
 conv => arg 2; whnf
 apply mss_one ?_
 apply ms_ret ?_
 apply me_cmp ?d3 fm_in ?d4 ?d5 ?_
 case d3 => exact (op_inM (hu151 hr))
 case' d4 => apply me_CB call_lenM fm_len ?d6 ?d7 PySem.boot_len ?d8 ?_ ?_
 case d6 => exact q24
 case d7 => exact T.z_len
 case' d8 => apply ma_1 ?d9 ?_
 case d9 => exact (me_var (pvk 1 q23))
 case' d5 => apply me_cal ?d10 ?_ ?d11 ?d12 ?_ ?_
 case d10 => exact C_ends
 case d11 => exact q26
 case' d12 => apply ma_3 ?d13 ?d14 ?d15 ?_ ?_ ?_
 case d13 => exact (me_var (pvk 0 q25))
 case d14 => exact (me_var (pvk 1 q23))
 case' d15 => apply me_lst ?_
 case' d15 => apply ma_1 me_int ?_
 all_goals (try walk_at "late")
theorem ok_least_steps (T : Txt P w K mg t) (n : Nat) : FnOk P w K mg base CX0 (n + 0) t.f_least_steps t.d_least_steps ["way"] (spM K (m_least_steps n)) := by
 induction n with
 | zero => exact FnOk.empty
 | succ n ih =>
   have C_least_steps := Cal.of ih T.m_least_steps T.F_least_steps.kp T.b_least_steps
   refine FnOk.mono (j := n + 0 + 1) (T.F_least_steps.okM (k := n + 0) sc_least_steps rfl fun cdv A outer s H E hr => ?_) (by omega)
   unfold b_least_steps
   conv => arg 2; whnf
   apply mss_cons ?d1 ?d2
   case' d1 => apply ms_set (i := 1) ?d3 ?_ ?d4 ?d5 ?_ ?_
   case d3 => exact sc_least_steps.nd
   case d4 => exact (Or.inl q58.lk)
   case' d5 => apply me_ix (ix_M (hu151 hr)) fm_ix ?d6 me_int ?_
   case d6 => exact (me_var (pvk 0 q59))
   case' d2 => apply mss_cons ?d7 ?d8
   case' d7 => apply ms_if ?d9 ?d10 mss_nil
   case' d9 => apply mt_cmp ?d11 fm_eq ?d12 me_str ?_
   case d11 => exact (op_eqK (hu150 hr))
   case d12 => exact (me_var (pvk 1 q58))
   case' d10 => apply mss_one ?_
   case' d10 => apply ms_ret me_int
   case' d8 => apply mss_cons ?d14 ?d15
   case' d14 => apply ms_if ?d16 ?d17 mss_nil
   case' d16 => apply mt_cmp ?d18 fm_eq ?d19 me_str ?_
   case d18 => exact (op_eqK (hu150 hr))
   case d19 => exact (me_var (pvk 1 q58))
   case' d17 => apply mss_one ?_
   case' d17 => apply ms_ret ?_
   case' d17 => apply me_op op_addM fm_add ?d22 ?d23
   case' d22 => apply me_cal ?d24 ?_ ?d25 ?d26 ?_ ?_
   case d24 => exact C_least_steps
   case d25 => exact q60
   case' d26 => apply ma_1 ?d27 ?_
   case' d27 => apply me_ix (ix_M (hu151 hr)) fm_ix ?d28 me_int ?_
   case d28 => exact (me_var (pvk 0 q59))
   case' d23 => apply me_cal ?d29 ?_ ?d30 ?d31 ?_ ?_
   case d29 => exact C_least_steps
   case d30 => exact q60
   case' d31 => apply ma_1 ?d32 ?_
   case' d32 => apply me_ix (ix_M (hu151 hr)) fm_ix ?d33 me_int ?_
   case d33 => exact (me_var (pvk 0 q59))
   case' d15 => apply mss_cons ?d34 ?d35
   case' d34 => apply ms_if ?d36 ?d37 mss_nil
   case' d36 => apply mt_cmp ?d38 fm_eq ?d39 me_str ?_
   case d38 => exact (op_eqK (hu150 hr))
   case d39 => exact (me_var (pvk 1 q58))
   case' d37 => apply mss_one ?_
   case' d37 => apply ms_ret ?_
   case' d37 => apply me_CB ?d42 fm_min ?d43 ?d44 PyProof.Rows.boot_min ?d45 ?_ ?_
   case d42 => exact (call_min2 rfl)
   case d43 => exact q61
   case d44 => exact T.z_min
   case' d45 => apply ma_2 ?d46 ?d47 ?_ ?_
   case' d46 => apply me_cal ?d48 ?_ ?d49 ?d50 ?_ ?_
   case d48 => exact C_least_steps
   case d49 => exact q60
   case' d50 => apply ma_1 ?d51 ?_
   case' d51 => apply me_ix (ix_M (hu151 hr)) fm_ix ?d52 me_int ?_
   case d52 => exact (me_var (pvk 0 q59))
   case' d47 => apply me_cal ?d53 ?_ ?d54 ?d55 ?_ ?_
   case d53 => exact C_least_steps
   case d54 => exact q60
   case' d55 => apply ma_1 ?d56 ?_
   case' d56 => apply me_ix (ix_M (hu151 hr)) fm_ix ?d57 me_int ?_
   case d57 => exact (me_var (pvk 0 q59))
   case' d35 => apply mss_cons ?d58 ?d59
   case' d58 => apply ms_if ?d60 ?d61 mss_nil
   case' d60 => apply mt_cmp ?d62 fm_eq ?d63 me_str ?_
   case d62 => exact (op_eqK (hu150 hr))
   case d63 => exact (me_var (pvk 1 q58))
   case' d61 => apply mss_one ?_
   case' d61 => apply ms_ret ?_
   case' d61 => apply me_op op_mulM fm_mul ?d66 ?d67
   case' d66 => apply me_ix (ix_M (hu151 hr)) fm_ix ?d68 me_int ?_
   case d68 => exact (me_var (pvk 0 q59))
   case' d67 => apply me_cal ?d69 ?_ ?d70 ?d71 ?_ ?_
   case d69 => exact C_least_steps
   case d70 => exact q60
   case' d71 => apply ma_1 ?d72 ?_
   case' d72 => apply me_ix (ix_M (hu151 hr)) fm_ix ?d73 me_int ?_
   case d73 => exact (me_var (pvk 0 q59))
   case' d59 => apply mss_one ?_
   case' d59 => apply ms_ret me_int
   all_goals (try walk_at "late")
theorem ok_turned (T : Txt P w K mg t) (n : Nat) : FnOk P w K mg base CX0 (n + 0) t.f_turned t.d_turned ["way"] (spM K (m_turned n)) := by
 induction n with
 | zero => exact FnOk.empty
 | succ n ih =>
   have C_turned := Cal.of ih T.m_turned T.F_turned.kp T.b_turned
   refine FnOk.mono (j := n + 0 + 1) (T.F_turned.okM (k := n + 0) sc_turned rfl fun cdv A outer s H E hr => ?_) (by omega)
   unfold b_turned
   conv => arg 2; whnf
   apply mss_cons ?d1 ?d2
   case' d1 => apply ms_set (i := 1) ?d3 ?_ ?d4 ?d5 ?_ ?_
   case d3 => exact sc_turned.nd
   case d4 => exact (Or.inl q62.lk)
   case' d5 => apply me_ix (ix_M (hu151 hr)) fm_ix ?d6 me_int ?_
   case d6 => exact (me_var (pvk 0 q63))
   case' d2 => apply mss_cons ?d7 ?d8
   case' d7 => apply ms_if ?d9 ?d10 mss_nil
   case' d9 => apply mt_cmp ?d11 fm_eq ?d12 me_str ?_
   case d11 => exact (op_eqK (hu150 hr))
   case d12 => exact (me_var (pvk 1 q62))
   case' d10 => apply mss_one ?_
   case' d10 => apply ms_ret ?_
   case' d10 => apply me_tup ?_
   case' d10 => apply ma_3 me_str ?d16 ?d17 ?_ ?_ ?_
   case' d16 => apply me_ix (ix_M (hu151 hr)) fm_ix ?d18 me_int ?_
   case d18 => exact (me_var (pvk 0 q63))
   case' d17 => apply me_ixD ?d19 ?d20 ?d21 ?d22 ?_
   case d19 => exact q65
   case d20 => exact T.c_OTHER_TURN
   case d21 => exact T.d_OTHER_TURN
   case' d22 => apply me_ix (ix_M (hu151 hr)) fm_ix ?d23 me_int ?_
   case d23 => exact (me_var (pvk 0 q63))
   case' d8 => apply mss_cons ?d24 ?d25
   case' d24 => apply ms_if ?d26 ?d27 mss_nil
   case' d26 => apply mt_cmp ?d28 fm_eq ?d29 me_str ?_
   case d28 => exact (op_eqK (hu150 hr))
   case d29 => exact (me_var (pvk 1 q62))
   case' d27 => apply mss_one ?_
   case' d27 => apply ms_ret ?_
   case d27 => exact (me_var (pvk 0 q63))
   case' d25 => apply mss_cons ?d32 ?d33
   case' d32 => apply ms_if ?d34 ?d35 mss_nil
   case' d34 => apply mt_cmp ?d36 fm_eq ?d37 me_str ?_
   case d36 => exact (op_eqK (hu150 hr))
   case d37 => exact (me_var (pvk 1 q62))
   case' d35 => apply mss_one ?_
   case' d35 => apply ms_ret ?_
   case' d35 => apply me_tup ?_
   case' d35 => apply ma_3 me_str ?d41 ?d42 ?_ ?_ ?_
   case' d41 => apply me_cal ?d43 ?_ ?d44 ?d45 ?_ ?_
   case d43 => exact C_turned
   case d44 => exact q64
   case' d45 => apply ma_1 ?d46 ?_
   case' d46 => apply me_ix (ix_M (hu151 hr)) fm_ix ?d47 me_int ?_
   case d47 => exact (me_var (pvk 0 q63))
   case' d42 => apply me_cal ?d48 ?_ ?d49 ?d50 ?_ ?_
   case d48 => exact C_turned
   case d49 => exact q64
   case' d50 => apply ma_1 ?d51 ?_
   case' d51 => apply me_ix (ix_M (hu151 hr)) fm_ix ?d52 me_int ?_
   case d52 => exact (me_var (pvk 0 q63))
   case' d33 => apply mss_cons ?d53 ?d54
   case' d53 => apply ms_if ?d55 ?d56 mss_nil
   case' d55 => apply mt_cmp ?d57 fm_eq ?d58 me_str ?_
   case d57 => exact (op_eqK (hu150 hr))
   case d58 => exact (me_var (pvk 1 q62))
   case' d56 => apply mss_one ?_
   case' d56 => apply ms_ret ?_
   case' d56 => apply me_tup ?_
   case' d56 => apply ma_3 me_str ?d62 ?d63 ?_ ?_ ?_
   case' d62 => apply me_cal ?d64 ?_ ?d65 ?d66 ?_ ?_
   case d64 => exact C_turned
   case d65 => exact q64
   case' d66 => apply ma_1 ?d67 ?_
   case' d67 => apply me_ix (ix_M (hu151 hr)) fm_ix ?d68 me_int ?_
   case d68 => exact (me_var (pvk 0 q63))
   case' d63 => apply me_cal ?d69 ?_ ?d70 ?d71 ?_ ?_
   case d69 => exact C_turned
   case d70 => exact q64
   case' d71 => apply ma_1 ?d72 ?_
   case' d72 => apply me_ix (ix_M (hu151 hr)) fm_ix ?d73 me_int ?_
   case d73 => exact (me_var (pvk 0 q63))
   case' d54 => apply mss_one ?_
   case' d54 => apply ms_ret ?_
   case' d54 => apply me_op op_addM fm_add ?d76 ?d77
   case' d76 => apply me_tup ?_
   case' d76 => apply ma_2 ?d79 ?d80 ?_ ?_
   case d79 => exact (me_var (pvk 1 q62))
   case' d80 => apply me_cal ?d81 ?_ ?d82 ?d83 ?_ ?_
   case d81 => exact C_turned
   case d82 => exact q64
   case' d83 => apply ma_1 ?d84 ?_
   case' d84 => apply me_ix (ix_M (hu151 hr)) fm_ix ?d85 me_int ?_
   case d85 => exact (me_var (pvk 0 q63))
   case' d77 => apply me_slice sl_M fm_sl ?d86 ?d87 mo_none
   case d86 => exact (me_var (pvk 0 q63))
   case' d87 => apply mo_some me_int
   all_goals (try walk_at "late")
theorem ok_has_steps (T : Txt P w K mg t) (n : Nat) : FnOk P w K mg base CX0 (n + 0) t.f_has_steps t.d_has_steps ["way"] (spM K (m_has_steps n)) := by
 induction n with
 | zero => exact FnOk.empty
 | succ n ih =>
   have C_has_steps := Cal.of ih T.m_has_steps T.F_has_steps.kp T.b_has_steps
   refine FnOk.mono (j := n + 0 + 1) (T.F_has_steps.okM (k := n + 0) sc_has_steps rfl fun cdv A outer s H E hr => ?_) (by omega)
   unfold b_has_steps
   conv => arg 2; whnf
   apply mss_cons ?d1 ?d2
   case' d1 => apply ms_set (i := 1) ?d3 ?_ ?d4 ?d5 ?_ ?_
   case d3 => exact sc_has_steps.nd
   case d4 => exact (Or.inl q70.lk)
   case' d5 => apply me_ix (ix_M (hu151 hr)) fm_ix ?d6 me_int ?_
   case d6 => exact (me_var (pvk 0 q71))
   case' d2 => apply mss_cons ?d7 ?d8
   case' d7 => apply ms_if ?d9 ?d10 mss_nil
   case' d9 => apply mt_cmp ?d11 fm_in ?d12 ?d13 ?_
   case d11 => exact (op_inM (hu151 hr))
   case d12 => exact (me_var (pvk 1 q70))
   case' d13 => apply me_tup ?_
   case' d13 => apply ma_2 me_str me_str ?_ ?_
   case' d10 => apply mss_one ?_
   case' d10 => apply ms_ret ?_
   case' d10 => apply me_or ?d17 ?d18
   case' d17 => apply me_cal ?d19 ?_ ?d20 ?d21 ?_ ?_
   case d19 => exact C_has_steps
   case d20 => exact q72
   case' d21 => apply ma_1 ?d22 ?_
   case' d22 => apply me_ix (ix_M (hu151 hr)) fm_ix ?d23 me_int ?_
   case d23 => exact (me_var (pvk 0 q71))
   case' d18 => apply me_one ?_
   case' d18 => apply me_cal ?d25 ?_ ?d26 ?d27 ?_ ?_
   case d25 => exact C_has_steps
   case d26 => exact q72
   case' d27 => apply ma_1 ?d28 ?_
   case' d28 => apply me_ix (ix_M (hu151 hr)) fm_ix ?d29 me_int ?_
   case d29 => exact (me_var (pvk 0 q71))
   case' d8 => apply mss_cons ?d30 ?d31
   case' d30 => apply ms_if ?d32 ?d33 mss_nil
   case' d32 => apply mt_cmp ?d34 fm_eq ?d35 me_str ?_
   case d34 => exact (op_eqK (hu150 hr))
   case d35 => exact (me_var (pvk 1 q70))
   case' d33 => apply mss_one ?_
   case' d33 => apply ms_ret ?_
   case' d33 => apply me_cal ?d38 ?_ ?d39 ?d40 ?_ ?_
   case d38 => exact C_has_steps
   case d39 => exact q72
   case' d40 => apply ma_1 ?d41 ?_
   case' d41 => apply me_ix (ix_M (hu151 hr)) fm_ix ?d42 me_int ?_
   case d42 => exact (me_var (pvk 0 q71))
   case' d31 => apply mss_cons ?d43 ?d44
   case' d43 => apply ms_if ?d45 ?d46 mss_nil
   case' d45 => apply mt_cmp ?d47 fm_eq ?d48 me_str ?_
   case d47 => exact (op_eqK (hu150 hr))
   case d48 => exact (me_var (pvk 1 q70))
   case' d46 => apply mss_one ?_
   case' d46 => apply ms_ret ?_
   case' d46 => apply me_and ?d51 ?d52
   case' d51 => apply me_cmp op_gtA fm_gt ?d53 me_int ?_
   case' d53 => apply me_ix (ix_M (hu151 hr)) fm_ix ?d54 me_int ?_
   case d54 => exact (me_var (pvk 0 q71))
   case' d52 => apply me_one ?_
   case' d52 => apply me_cal ?d56 ?_ ?d57 ?d58 ?_ ?_
   case d56 => exact C_has_steps
   case d57 => exact q72
   case' d58 => apply ma_1 ?d59 ?_
   case' d59 => apply me_ix (ix_M (hu151 hr)) fm_ix ?d60 me_int ?_
   case d60 => exact (me_var (pvk 0 q71))
   case' d44 => apply mss_one ?_
   case' d44 => apply ms_ret ?_
   case' d44 => apply me_cmp ?d63 fm_eq ?d64 me_str ?_
   case d63 => exact (op_eqK (hu150 hr))
   case d64 => exact (me_var (pvk 1 q70))
   all_goals (try walk_at "late")
theorem ok_is_endless (T : Txt P w K mg t) (n : Nat) : FnOk P w K mg base CX0 (n + 12) t.f_is_endless t.d_is_endless ["way"] (spM K (m_is_endless n)) := by
 induction n with
 | zero => exact FnOk.empty
 | succ n ih =>
   have C_has_steps := Cal.of (ok_has_steps (P := P) (w := w) (base := base) T 12) T.m_has_steps T.F_has_steps.kp T.b_has_steps
   have C_is_endless := Cal.of ih T.m_is_endless T.F_is_endless.kp T.b_is_endless
   refine FnOk.mono (j := n + 12 + 1) (T.F_is_endless.okM (k := n + 12) sc_is_endless rfl fun cdv A outer s H E hr => ?_) (by omega)
   unfold b_is_endless
   conv => arg 2; whnf
   apply mss_cons ?d1 ?d2
   case' d1 => apply ms_set (i := 1) ?d3 ?_ ?d4 ?d5 ?_ ?_
   case d3 => exact sc_is_endless.nd
   case d4 => exact (Or.inl q68.lk)
   case' d5 => apply me_ix (ix_M (hu151 hr)) fm_ix ?d6 me_int ?_
   case d6 => exact (me_var (pvk 0 q66))
   case' d2 => apply mss_cons ?d7 ?d8
   case' d7 => apply ms_if ?d9 ?d10 mss_nil
   case' d9 => apply mt_cmp ?d11 fm_in ?d12 ?d13 ?_
   case d11 => exact (op_inM (hu151 hr))
   case d12 => exact (me_var (pvk 1 q68))
   case' d13 => apply me_tup ?_
   case' d13 => apply ma_2 me_str me_str ?_ ?_
   case' d10 => apply mss_one ?_
   case' d10 => apply ms_ret ?_
   case' d10 => apply me_or ?d17 ?d18
   case' d17 => apply me_cal ?d19 ?_ ?d20 ?d21 ?_ ?_
   case d19 => exact C_is_endless
   case d20 => exact q67
   case' d21 => apply ma_1 ?d22 ?_
   case' d22 => apply me_ix (ix_M (hu151 hr)) fm_ix ?d23 me_int ?_
   case d23 => exact (me_var (pvk 0 q66))
   case' d18 => apply me_one ?_
   case' d18 => apply me_cal ?d25 ?_ ?d26 ?d27 ?_ ?_
   case d25 => exact C_is_endless
   case d26 => exact q67
   case' d27 => apply ma_1 ?d28 ?_
   case' d28 => apply me_ix (ix_M (hu151 hr)) fm_ix ?d29 me_int ?_
   case d29 => exact (me_var (pvk 0 q66))
   case' d8 => apply mss_cons ?d30 ?d31
   case' d30 => apply ms_if ?d32 ?d33 mss_nil
   case' d32 => apply mt_cmp ?d34 fm_eq ?d35 me_str ?_
   case d34 => exact (op_eqK (hu150 hr))
   case d35 => exact (me_var (pvk 1 q68))
   case' d33 => apply mss_one ?_
   case' d33 => apply ms_ret ?_
   case' d33 => apply me_cal ?d38 ?_ ?d39 ?d40 ?_ ?_
   case d38 => exact C_has_steps
   case d39 => exact q69
   case' d40 => apply ma_1 ?d41 ?_
   case' d41 => apply me_ix (ix_M (hu151 hr)) fm_ix ?d42 me_int ?_
   case d42 => exact (me_var (pvk 0 q66))
   case' d31 => apply mss_one ?_
   case' d31 => apply ms_ret ?_
   case' d31 => apply me_and ?d45 ?d46
   case' d45 => apply me_cmp ?d47 fm_eq ?d48 me_str ?_
   case d47 => exact (op_eqK (hu150 hr))
   case d48 => exact (me_var (pvk 1 q68))
   case' d46 => apply me_and ?d49 ?d50
   case' d49 => apply me_cmp op_gtA fm_gt ?d51 me_int ?_
   case' d51 => apply me_ix (ix_M (hu151 hr)) fm_ix ?d52 me_int ?_
   case d52 => exact (me_var (pvk 0 q66))
   case' d50 => apply me_one ?_
   case' d50 => apply me_cal ?d54 ?_ ?d55 ?d56 ?_ ?_
   case d54 => exact C_is_endless
   case d55 => exact q67
   case' d56 => apply ma_1 ?d57 ?_
   case' d57 => apply me_ix (ix_M (hu151 hr)) fm_ix ?d58 me_int ?_
   case d58 => exact (me_var (pvk 0 q66))
   all_goals (try walk_at "late")
theorem okLhand (T : Txt P w K mg t) : FnOk P w K mg base CX0 1 t.fLhand t.dLhand ["_law_script", "_law_k"] (spM K mLhand) := by
 refine T.FLhand.okM (k := 0) scLhand rfl fun cdv A outer s H E hr => ?_
 unfold bLhand
 conv => arg 2; whnf
 apply mss_cons ?d1 ?d2
 case' d1 => apply ms_set (i := 2) ?d3 ?_ ?d4 me_int ?_ ?_
 case d3 => exact scLhand.nd
 case d4 => exact (Or.inl q73.lk)
 case' d2 => apply mss_cons ?d5 ?d6
 case' d5 => apply ms_if ?d7 ?d8 mss_nil
 case' d7 => apply mt_cmp op_ltA fm_lt ?d9 ?d10 ?_
 case d9 => exact (me_var (pvk 1 q77))
 case' d10 => apply me_CB call_lenM fm_len ?d11 ?d12 PySem.boot_len ?d13 ?_ ?_
 case d11 => exact q80
 case d12 => exact T.z_len
 case' d13 => apply ma_1 ?d14 ?_
 case d14 => exact (me_var (pvk 0 q78))
 case' d8 => apply mss_one ?_
 case' d8 => apply ms_set (i := 2) ?d16 ?_ ?d17 ?d18 ?_ ?_
 case d16 => exact scLhand.nd
 case d17 => exact (Or.inl q73.lk)
 case' d18 => apply me_ix (ix_M (hu151 hr)) fm_ix ?d19 ?d20 ?_
 case d19 => exact (me_var (pvk 0 q78))
 case d20 => exact (me_var (pvk 1 q77))
 case' d6 => apply mss_cons ?d21 ?d22
 case' d21 => apply ms_set (i := 3) ?d23 ?_ ?d24 me_int ?_ ?_
 case d23 => exact scLhand.nd
 case d24 => exact (Or.inl q76.lk)
 case' d22 => apply mss_cons ?d25 ?d26
 case' d25 => apply ms_for ?_ ?_ ?d27 ?d28 ?d29 ?_
 case' d27 => apply mi_list ?_
 case' d27 => apply me_slice sl_M fm_sl ?d31 mo_none ?d32
 case d31 => exact (me_var (pvk 0 q78))
 case' d32 => apply mo_some me_int
 case' d28 => apply mg_name ?_
 case' d28 => apply pg_name (i := 4) ?d34 ?_ ?d35 ?_
 case d34 => exact scLhand.nd
 case d35 => exact (Or.inl q79.lk)
 case' d29 => apply mss_one ?_
 case' d29 => apply ms_set (i := 3) ?d37 ?_ ?d38 ?d39 ?_ ?_
 case d37 => exact scLhand.nd
 case d38 => exact (Or.inl q76.lk)
 case' d39 => apply me_op op_mod fm_mod ?_ me_int
 case' d39 => apply me_op op_addM fm_add ?d41 ?d42
 case' d41 => apply me_op op_mulM fm_mul me_int ?_
 case d41 => exact (me_var (pvk 3 q76))
 case d42 => exact (me_var (pvk 4 q79))
 case' d26 => apply mss_one ?_
 case' d26 => apply ms_ret ?_
 case' d26 => apply me_lstH ?_
 case' d26 => apply ma_3 ?d47 ?d48 me_int ?_ ?_ ?_
 case' d47 => apply me_op op_mulM fm_mul ?d49 ?d50
 case' d49 => apply me_CB call_abs fm_abs ?d51 ?d52 PyProof.Rows.Boot.abs ?d53 ?_ ?_
 case d51 => exact q74
 case d52 => exact T.z_abs
 case' d53 => apply ma_1 ?d54 ?_
 case d54 => exact (me_var (pvk 2 q73))
 case' d50 => apply me_CTy call_int1 fm_int ?d55 ?d56 ?_ ?d57 ?_ ?_
 case d55 => exact q75
 case d56 => exact T.z_int
 case' d57 => apply ma_1 ?d58 ?_
 case' d58 => apply me_cmp op_geA fm_ge ?d59 ?d60 ?_
 case' d59 => apply me_CB call_abs fm_abs ?d61 ?d62 PyProof.Rows.Boot.abs ?d63 ?_ ?_
 case d61 => exact q74
 case d62 => exact T.z_abs
 case' d63 => apply ma_1 ?d64 ?_
 case d64 => exact (me_var (pvk 2 q73))
 case' d60 => apply me_op op_pow fm_pow me_int me_int
 case' d48 => apply me_op op_addM fm_add ?_ me_int
 case' d48 => apply me_op op_addM fm_add ?d66 ?d67
 case' d66 => apply me_op op_mod fm_mod ?_ me_int
 case' d66 => apply me_op op_addM fm_add ?d69 ?d70
 case d69 => exact (me_var (pvk 2 q73))
 case d70 => exact (me_var (pvk 3 q76))
 case' d67 => apply me_op op_mulM fm_mul me_int ?_
 case d67 => exact (me_var (pvk 1 q77))
 all_goals (try walk_at "late")
theorem okLtake (T : Txt P w K mg t) : FnOk P w K mg base CX0 1 t.fLtake t.dLtake ["_law_hand_here", "_law_many"] (spM K mLtake) := by
 refine T.FLtake.okM (k := 0) scLtake rfl fun cdv A outer s H E hr => ?_
 unfold bLtake
 conv => arg 2; whnf
 apply mss_cons ?d1 ?d2
 case' d1 => apply ms_if ?d3 ?d4 mss_nil
 case' d3 => apply mt_cmp op_gtA fm_gt ?d5 me_int ?_
 case' d5 => apply me_ix (ix_M (hu151 hr)) fm_ix ?d6 me_int ?_
 case d6 => exact (me_var (pvk 0 q84))
 case' d4 => apply mss_cons ?d7 ?d8
 case' d7 => apply ms_set (i := 2) ?d9 ?_ ?d10 ?d11 ?_ ?_
 case d9 => exact scLtake.nd
 case d10 => exact (Or.inl q85.lk)
 case' d11 => apply me_op op_mod fm_mod ?d12 ?d13
 case' d12 => apply me_ix (ix_M (hu151 hr)) fm_ix ?d14 me_int ?_
 case d14 => exact (me_var (pvk 0 q84))
 case d13 => exact (me_var (pvk 1 q82))
 case' d8 => apply mss_cons ?d15 ?d16
 case' d15 => apply ms_asg ?d17 ?d18 ?_ ?_ ?_
 case' d17 => apply me_op op_fdiv fm_div ?d19 ?d20
 case' d19 => apply me_ix (ix_M (hu151 hr)) fm_ix ?d21 me_int ?_
 case d21 => exact (me_var (pvk 0 q84))
 case d20 => exact (me_var (pvk 1 q82))
 case' d18 => apply mg_sub ?d22 me_int ?_
 case d22 => exact (me_var (pvk 0 q84))
 case' d16 => apply mss_one ?_
 case' d16 => apply ms_ret ?_
 case d16 => exact (me_var (pvk 2 q85))
 case' d2 => apply mss_cons ?d25 ?d26
 case' d25 => apply ms_asg ?d27 ?d28 ?_ ?_ ?_
 case' d27 => apply me_op op_addM fm_add ?_ me_int
 case' d27 => apply me_ix (ix_M (hu151 hr)) fm_ix ?d30 me_int ?_
 case d30 => exact (me_var (pvk 0 q84))
 case' d28 => apply mg_sub ?d31 me_int ?_
 case d31 => exact (me_var (pvk 0 q84))
 case' d26 => apply mss_cons ?d32 ?d33
 case' d32 => apply ms_set (i := 3) ?d34 ?_ ?d35 ?d36 ?_ ?_
 case d34 => exact scLtake.nd
 case d35 => exact (Or.inl q83.lk)
 case' d36 => apply me_ix (ix_M (hu151 hr)) fm_ix ?d37 me_int ?_
 case d37 => exact (me_var (pvk 0 q84))
 case' d33 => apply mss_cons ?d38 ?d39
 case' d38 => apply ms_set (i := 4) ?d40 ?_ ?d41 ?d42 ?_ ?_
 case d40 => exact scLtake.nd
 case d41 => exact (Or.inl q81.lk)
 case' d42 => apply me_op op_mod fm_mod ?_ me_int
 case' d42 => apply me_op op_mulM fm_mul ?d44 ?d45
 case' d44 => apply me_ix (ix_M (hu151 hr)) fm_ix ?d46 me_int ?_
 case d46 => exact (me_var (pvk 0 q84))
 case' d45 => apply me_op op_addM fm_add ?d47 ?d48
 case' d47 => apply me_op op_addM fm_add me_int ?_
 case' d47 => apply me_op op_mulM fm_mul ?d50 ?d51
 case' d50 => apply me_op op_mulM fm_mul me_int ?_
 case d50 => exact (me_var (pvk 3 q83))
 case d51 => exact (me_var (pvk 3 q83))
 case' d48 => apply me_op op_mulM fm_mul me_int ?_
 case d48 => exact (me_var (pvk 3 q83))
 case' d39 => apply mss_cons ?d54 ?d55
 case' d54 => apply ms_set (i := 4) ?d56 ?_ ?d57 ?d58 ?_ ?_
 case d56 => exact scLtake.nd
 case d57 => exact (Or.inl q81.lk)
 case' d58 => apply me_op op_mod fm_mod ?_ me_int
 case' d58 => apply me_op op_mulM fm_mul ?d60 ?d61
 case d60 => exact (me_var (pvk 4 q81))
 case' d61 => apply me_op op_addM fm_add ?_ me_int
 case' d61 => apply me_op op_addM fm_add ?d63 ?d64
 case' d63 => apply me_op op_mod fm_mod ?_ me_int
 case d63 => exact (me_var (pvk 4 q81))
 case' d64 => apply me_op op_mulM fm_mul ?_ me_int
 case d64 => exact (me_var (pvk 3 q83))
 case' d55 => apply mss_one ?_
 case' d55 => apply ms_ret ?_
 case' d55 => apply me_op op_mod fm_mod ?d69 ?d70
 case' d69 => apply me_op op_addM fm_add ?d71 ?d72
 case' d71 => apply me_op op_fdiv fm_div ?_ me_int
 case d71 => exact (me_var (pvk 4 q81))
 case' d72 => apply me_op op_fdiv fm_div ?_ me_int
 case d72 => exact (me_var (pvk 4 q81))
 case d70 => exact (me_var (pvk 1 q82))
 all_goals (try walk_at "late")
theorem okLkinds (T : Txt P w K mg t) : FnOk P w K mg base CX0 2 t.fLkinds t.dLkinds ["_law_hand_here"] (spM K mLkinds) := by
 have CLtake := Cal.of (okLtake (P := P) (w := w) (base := base) T) T.mLtake T.FLtake.kp T.bLtake
 refine T.FLkinds.okM (k := 1) scLkinds rfl fun cdv A outer s H E hr => ?_
 unfold bLkinds
 conv => arg 2; whnf
 apply mss_cons ?d1 ?d2
 case' d1 => apply ms_set (i := 1) ?d3 ?_ ?d4 ?d5 ?_ ?_
 case d3 => exact scLkinds.nd
 case d4 => exact (Or.inl q86.lk)
 case' d5 => apply me_lst ?_
 case' d5 => apply ma_c4 me_str me_str me_str me_str ?d7 ?_ ?_ ?_ ?_
 case' d7 => apply ma_4 me_str me_str me_str me_str ?_ ?_ ?_ ?_
 case' d2 => apply mss_cons ?d8 ?d9
 case' d8 => apply ms_set (i := 2) ?d10 ?_ ?d11 ?d12 ?_ ?_
 case d10 => exact scLkinds.nd
 case d11 => exact (Or.inl q87.lk)
 case' d12 => apply me_cal ?d13 ?_ ?d14 ?d15 ?_ ?_
 case d13 => exact CLtake
 case d14 => exact q90
 case' d15 => apply ma_2 ?d16 me_int ?_ ?_
 case d16 => exact (me_var (pvk 0 q89))
 case' d9 => apply mss_cons ?d17 ?d18
 case' d17 => apply ms_set (i := 3) ?d19 ?_ ?d20 ?d21 ?_ ?_
 case d19 => exact scLkinds.nd
 case d20 => exact (Or.inl q88.lk)
 case' d21 => apply me_op op_addM fm_add me_int ?_
 case' d21 => apply me_cal ?d23 ?_ ?d24 ?d25 ?_ ?_
 case d23 => exact CLtake
 case d24 => exact q90
 case' d25 => apply ma_2 ?d26 me_int ?_ ?_
 case d26 => exact (me_var (pvk 0 q89))
 case' d18 => apply mss_cons ?d27 ?d28
 case' d27 => apply ms_if ?d29 ?d30 mss_nil
 case' d29 => apply mt_cmp ?d31 fm_eq ?d32 me_int ?_
 case d31 => exact (op_eqK (hu150 hr))
 case' d32 => apply me_cal ?d33 ?_ ?d34 ?d35 ?_ ?_
 case d33 => exact CLtake
 case d34 => exact q90
 case' d35 => apply ma_2 ?d36 me_int ?_ ?_
 case d36 => exact (me_var (pvk 0 q89))
 case' d30 => apply mss_one ?_
 case' d30 => apply ms_set (i := 3) ?d38 ?_ ?d39 ?d40 ?_ ?_
 case d38 => exact scLkinds.nd
 case d39 => exact (Or.inl q88.lk)
 case' d40 => apply me_op op_addM fm_add me_int ?_
 case' d40 => apply me_cal ?d42 ?_ ?d43 ?d44 ?_ ?_
 case d42 => exact CLtake
 case d43 => exact q90
 case' d44 => apply ma_2 ?d45 me_int ?_ ?_
 case d45 => exact (me_var (pvk 0 q89))
 case' d28 => apply mss_one ?_
 case' d28 => apply ms_ret ?_
 case' d28 => apply me_slice sl_M fm_sl ?d48 mo_none ?d49
 case' d48 => apply me_op op_addM fm_add ?d50 ?d51
 case' d50 => apply me_slice sl_M fm_sl ?d52 ?d53 mo_none
 case d52 => exact (me_var (pvk 1 q86))
 case' d53 => apply mo_some ?_
 case d53 => exact (me_var (pvk 2 q87))
 case' d51 => apply me_slice sl_M fm_sl ?d55 mo_none ?d56
 case d55 => exact (me_var (pvk 1 q86))
 case' d56 => apply mo_some ?_
 case d56 => exact (me_var (pvk 2 q87))
 case' d49 => apply mo_some ?_
 case d49 => exact (me_var (pvk 3 q88))
 all_goals (try walk_at "late")
theorem okLleaf (T : Txt P w K mg t) : FnOk P w K mg base CX0 2 t.fLleaf t.dLleaf ["_law_hand_here", "_law_kinds_here"] (spM K mLleaf) := by
 have CLtake := Cal.of (okLtake (P := P) (w := w) (base := base) T) T.mLtake T.FLtake.kp T.bLtake
 refine T.FLleaf.okM (k := 1) scLleaf rfl fun cdv A outer s H E hr => ?_
 unfold bLleaf
 conv => arg 2; whnf
 apply mss_cons ?d1 ?d2
 case' d1 => apply ms_set (i := 2) ?d3 ?_ ?d4 ?d5 ?_ ?_
 case d3 => exact scLleaf.nd
 case d4 => exact (Or.inl q94.lk)
 case' d5 => apply me_cal ?d6 ?_ ?d7 ?d8 ?_ ?_
 case d6 => exact CLtake
 case d7 => exact q93
 case' d8 => apply ma_2 ?d9 me_int ?_ ?_
 case d9 => exact (me_var (pvk 0 q92))
 case' d2 => apply mss_cons ?d10 ?d11
 case' d10 => apply ms_if ?d12 ?d13 mss_nil
 case' d12 => apply mt_cmp ?d14 fm_eq ?d15 me_int ?_
 case d14 => exact (op_eqK (hu150 hr))
 case d15 => exact (me_var (pvk 2 q94))
 case' d13 => apply mss_one ?_
 case' d13 => apply ms_ret ?_
 case' d13 => apply me_tup ?_
 case' d13 => apply ma_1 me_str ?_
 case' d11 => apply mss_cons ?d19 ?d20
 case' d19 => apply ms_set (i := 3) ?d21 ?_ ?d22 ?d23 ?_ ?_
 case d21 => exact scLleaf.nd
 case d22 => exact (Or.inl q91.lk)
 case' d23 => apply me_ix (ix_M (hu151 hr)) fm_ix ?d24 ?d25 ?_
 case d24 => exact (me_var (pvk 1 q95))
 case' d25 => apply me_cal ?d26 ?_ ?d27 ?d28 ?_ ?_
 case d26 => exact CLtake
 case d27 => exact q93
 case' d28 => apply ma_2 ?d29 ?d30 ?_ ?_
 case d29 => exact (me_var (pvk 0 q92))
 case' d30 => apply me_CB call_lenM fm_len ?d31 ?d32 PySem.boot_len ?d33 ?_ ?_
 case d31 => exact q96
 case d32 => exact T.z_len
 case' d33 => apply ma_1 ?d34 ?_
 case d34 => exact (me_var (pvk 1 q95))
 case' d20 => apply mss_cons ?d35 ?d36
 case' d35 => apply ms_if ?d37 ?d38 mss_nil
 case' d37 => apply mt_cmp ?d39 fm_eq ?d40 me_int ?_
 case d39 => exact (op_eqK (hu150 hr))
 case d40 => exact (me_var (pvk 2 q94))
 case' d38 => apply mss_one ?_
 case' d38 => apply ms_set (i := 3) ?d42 ?_ ?d43 me_non ?_ ?_
 case d42 => exact scLleaf.nd
 case d43 => exact (Or.inl q91.lk)
 case' d36 => apply mss_one ?_
 case' d36 => apply ms_ret ?_
 case' d36 => apply me_tup ?_
 case' d36 => apply ma_3 me_str ?d47 ?d48 ?_ ?_ ?_
 case d47 => exact (me_var (pvk 3 q91))
 case' d48 => apply me_ix (ix_M (hu151 hr)) fm_ix ?d49 ?d50 ?_
 case' d49 => apply me_tup ?_
 case' d49 => apply ma_4 me_str me_str me_str me_str ?_ ?_ ?_ ?_
 case' d50 => apply me_cal ?d52 ?_ ?d53 ?d54 ?_ ?_
 case d52 => exact CLtake
 case d53 => exact q93
 case' d54 => apply ma_2 ?d55 me_int ?_ ?_
 case d55 => exact (me_var (pvk 0 q92))
 all_goals (try walk_at "late")
theorem okLway (T : Txt P w K mg t) (n : Nat) : FnOk P w K mg base CX0 (n + 2) t.fLway t.dLway ["_law_hand_here", "_law_kinds_here", "_law_room", "_law_nest"] (spM K (mLway n)) := by
 induction n with
 | zero => exact FnOk.empty
 | succ n ih =>
   have CLtake := Cal.of (okLtake (P := P) (w := w) (base := base) T) T.mLtake T.FLtake.kp T.bLtake
   have CLleaf := Cal.of (okLleaf (P := P) (w := w) (base := base) T) T.mLleaf T.FLleaf.kp T.bLleaf
   have CLway := Cal.of ih T.mLway T.FLway.kp T.bLway
   refine FnOk.mono (j := n + 2 + 1) (T.FLway.okM (k := n + 2) scLway rfl fun cdv A outer s H E hr => ?_) (by omega)
   unfold bLway
   conv => arg 2; whnf
   apply mss_cons ?d1 ?d2
   case' d1 => apply ms_set (i := 4) ?d3 ?_ ?d4 ?d5 ?_ ?_
   case d3 => exact scLway.nd
   case d4 => exact (Or.inl q97.lk)
   case' d5 => apply me_cal ?d6 ?_ ?d7 ?d8 ?_ ?_
   case d6 => exact CLtake
   case d7 => exact q105
   case' d8 => apply ma_2 ?d9 me_int ?_ ?_
   case d9 => exact (me_var (pvk 0 q99))
   case' d2 => apply mss_cons ?d10 ?d11
   case' d10 => apply ms_if ?d12 ?d13 mss_nil
   case' d12 => apply PW.pt ?_
   case' d12 => apply mw_or ?d15 ?d16
   case' d15 => apply mt_cmp op_ltA fm_lt ?d17 me_int ?_
   case d17 => exact (me_var (pvk 2 q101))
   case' d16 => apply mw_or ?d18 ?d19
   case' d18 => apply mt_cmp op_ltA fm_lt ?d20 me_int ?_
   case d20 => exact (me_var (pvk 4 q97))
   case' d19 => apply mw_or1 ?_
   case' d19 => apply PW.pt ?_
   case' d19 => apply mw_and ?d23 ?d24
   case' d23 => apply mt_cmp op_ltA fm_lt ?d25 me_int ?_
   case d25 => exact (me_var (pvk 2 q101))
   case' d24 => apply mw_and1 ?_
   case' d24 => apply mt_cmp ?d27 fm_eq ?d28 me_int ?_
   case d27 => exact (op_eqK (hu150 hr))
   case d28 => exact (me_var (pvk 3 q103))
   case' d13 => apply mss_one ?_
   case' d13 => apply ms_ret ?_
   case' d13 => apply me_cal ?d31 ?_ ?d32 ?d33 ?_ ?_
   case d31 => exact CLleaf
   case d32 => exact q108
   case' d33 => apply ma_2 ?d34 ?d35 ?_ ?_
   case d34 => exact (me_var (pvk 0 q99))
   case d35 => exact (me_var (pvk 1 q100))
   case' d11 => apply mss_cons ?d36 ?d37
   case' d36 => apply ms_if ?d38 ?d39 mss_nil
   case' d38 => apply PW.pt ?_
   case' d38 => apply mw_and ?d41 ?d42
   case' d41 => apply PW.pt ?_
   case' d41 => apply mw_or ?d44 ?d45
   case' d44 => apply mt_cmp op_ltA fm_lt ?d46 me_int ?_
   case d46 => exact (me_var (pvk 4 q97))
   case' d45 => apply mw_or1 ?_
   case' d45 => apply mt_cmp op_ltA fm_lt ?d48 me_int ?_
   case d48 => exact (me_var (pvk 2 q101))
   case' d42 => apply mw_and1 ?_
   case' d42 => apply mt_cmp op_gtA fm_gt ?d50 me_int ?_
   case d50 => exact (me_var (pvk 3 q103))
   case' d39 => apply mss_one ?_
   case' d39 => apply ms_ret ?_
   case' d39 => apply me_tup ?_
   case' d39 => apply ma_2 me_str ?d54 ?_ ?_
   case' d54 => apply me_cal ?d55 ?_ ?d56 ?d57 ?_ ?_
   case d55 => exact CLway
   case d56 => exact q104
   case' d57 => apply ma_4 ?d58 ?d59 ?d60 ?d61 ?_ ?_ ?_ ?_
   case d58 => exact (me_var (pvk 0 q99))
   case d59 => exact (me_var (pvk 1 q100))
   case' d60 => apply me_op op_sub fm_sub ?_ me_int
   case d60 => exact (me_var (pvk 2 q101))
   case' d61 => apply me_op op_sub fm_sub ?_ me_int
   case d61 => exact (me_var (pvk 3 q103))
   case' d37 => apply mss_cons ?d64 ?d65
   case' d64 => apply ms_if ?d66 ?d67 mss_nil
   case' d66 => apply PW.pt ?_
   case' d66 => apply mw_and ?d69 ?d70
   case' d69 => apply mt_cmp ?d71 fm_eq ?d72 me_int ?_
   case d71 => exact (op_eqK (hu150 hr))
   case d72 => exact (me_var (pvk 4 q97))
   case' d70 => apply mw_and1 ?_
   case' d70 => apply mt_cmp op_gtA fm_gt ?d74 me_int ?_
   case d74 => exact (me_var (pvk 3 q103))
   case' d67 => apply mss_cons ?d75 ?d76
   case' d75 => apply ms_set (i := 5) ?d77 ?_ ?d78 ?d79 ?_ ?_
   case d77 => exact scLway.nd
   case d78 => exact (Or.inl q106.lk)
   case' d79 => apply me_cal ?d80 ?_ ?d81 ?d82 ?_ ?_
   case d80 => exact CLtake
   case d81 => exact q105
   case' d82 => apply ma_2 ?d83 me_int ?_ ?_
   case d83 => exact (me_var (pvk 0 q99))
   case' d76 => apply mss_cons ?d84 ?d85
   case' d84 => apply ms_set (i := 6) ?d86 ?_ ?d87 ?d88 ?_ ?_
   case d86 => exact scLway.nd
   case d87 => exact (Or.inl q107.lk)
   case' d88 => apply me_op op_addM fm_add ?d89 ?d90
   case d89 => exact (me_var (pvk 5 q106))
   case' d90 => apply me_cal ?d91 ?_ ?d92 ?d93 ?_ ?_
   case d91 => exact CLtake
   case d92 => exact q105
   case' d93 => apply ma_2 ?d94 ?d95 ?_ ?_
   case d94 => exact (me_var (pvk 0 q99))
   case' d95 => apply me_ix (ix_M (hu151 hr)) fm_ix ?d96 ?d97 ?_
   case' d96 => apply me_tup ?_
   case' d96 => apply ma_3 me_int me_int me_int ?_ ?_ ?_
   case' d97 => apply me_cal ?d99 ?_ ?d100 ?d101 ?_ ?_
   case d99 => exact CLtake
   case d100 => exact q105
   case' d101 => apply ma_2 ?d102 me_int ?_ ?_
   case d102 => exact (me_var (pvk 0 q99))
   case' d85 => apply mss_one ?_
   case' d85 => apply ms_ret ?_
   case' d85 => apply me_tup ?_
   case' d85 => apply ma_4 me_str ?d106 ?d107 ?d108 ?_ ?_ ?_ ?_
   case' d106 => apply me_cal ?d109 ?_ ?d110 ?d111 ?_ ?_
   case d109 => exact CLway
   case d110 => exact q104
   case' d111 => apply ma_4 ?d112 ?d113 ?d114 ?d115 ?_ ?_ ?_ ?_
   case d112 => exact (me_var (pvk 0 q99))
   case d113 => exact (me_var (pvk 1 q100))
   case' d114 => apply me_op op_sub fm_sub ?_ me_int
   case d114 => exact (me_var (pvk 2 q101))
   case' d115 => apply me_op op_sub fm_sub ?_ me_int
   case d115 => exact (me_var (pvk 3 q103))
   case d107 => exact (me_var (pvk 5 q106))
   case d108 => exact (me_var (pvk 6 q107))
   case' d65 => apply mss_cons ?d118 ?d119
   case' d118 => apply ms_set (i := 7) ?d120 ?_ ?d121 ?d122 ?_ ?_
   case d120 => exact scLway.nd
   case d121 => exact (Or.inl q102.lk)
   case' d122 => apply me_op op_addM fm_add me_int ?_
   case' d122 => apply me_cal ?d124 ?_ ?d125 ?d126 ?_ ?_
   case d124 => exact CLtake
   case d125 => exact q105
   case' d126 => apply ma_2 ?d127 ?d128 ?_ ?_
   case d127 => exact (me_var (pvk 0 q99))
   case' d128 => apply me_op op_sub fm_sub ?_ me_int
   case d128 => exact (me_var (pvk 2 q101))
   case' d119 => apply mss_cons ?d130 ?d131
   case' d130 => apply ms_set (i := 8) ?d132 ?_ ?d133 ?d134 ?_ ?_
   case d132 => exact scLway.nd
   case d133 => exact (Or.inl q98.lk)
   case' d134 => apply me_cal ?d135 ?_ ?d136 ?d137 ?_ ?_
   case d135 => exact CLway
   case d136 => exact q104
   case' d137 => apply ma_4 ?d138 ?d139 ?d140 ?d141 ?_ ?_ ?_ ?_
   case d138 => exact (me_var (pvk 0 q99))
   case d139 => exact (me_var (pvk 1 q100))
   case d140 => exact (me_var (pvk 7 q102))
   case d141 => exact (me_var (pvk 3 q103))
   case' d131 => apply mss_one ?_
   case' d131 => apply ms_ret ?_
   case' d131 => apply me_tup ?_
   case' d131 => apply ma_3 ?d145 ?d146 ?d147 ?_ ?_ ?_
   case' d145 => apply me_ix (ix_M (hu151 hr)) fm_ix ?d148 ?d149 ?_
   case' d148 => apply me_tup ?_
   case' d148 => apply ma_2 me_str me_str ?_ ?_
   case' d149 => apply me_op op_mod fm_mod ?_ me_int
   case d149 => exact (me_var (pvk 4 q97))
   case d146 => exact (me_var (pvk 8 q98))
   case' d147 => apply me_cal ?d152 ?_ ?d153 ?d154 ?_ ?_
   case d152 => exact CLway
   case d153 => exact q104
   case' d154 => apply ma_4 ?d155 ?d156 ?d157 ?d158 ?_ ?_ ?_ ?_
   case d155 => exact (me_var (pvk 0 q99))
   case d156 => exact (me_var (pvk 1 q100))
   case' d157 => apply me_op op_sub fm_sub ?d159 ?d160
   case' d159 => apply me_op op_sub fm_sub ?_ me_int
   case d159 => exact (me_var (pvk 2 q101))
   case d160 => exact (me_var (pvk 7 q102))
   case d158 => exact (me_var (pvk 3 q103))
   all_goals (try walk_at "late")
theorem okLboth (T : Txt P w K mg t) : FnOk P w K mg base CX0 1 t.fLboth t.dLboth ["_law_one", "_law_other"] (spM K mLboth) := by
 refine T.FLboth.okM (k := 0) scLboth rfl fun cdv A outer s H E hr => ?_
 unfold bLboth
 conv => arg 2; whnf
 apply mss_one ?_
 apply ms_ret ?_
 apply me_sort1 ?_ ?d3 ?d4 ?d5 ?d6 ?d7 ?_
 case d3 => exact q111
 case d4 => exact T.z_sorted
 case d5 => exact q112
 case d6 => exact T.z_set
 case' d7 => apply me_op op_addM fm_add ?d8 ?d9
 case d8 => exact (me_var (pvk 0 q109))
 case d9 => exact (me_var (pvk 1 q110))
 all_goals (try walk_at "late")
theorem okLof (T : Txt P w K mg t) : FnOk P w K mg base CX0 1 t.fLof t.dLof ["_law_way_here", "_law_step"] (spM K mLof) := by
 refine T.FLof.okM (k := 0) scLof rfl fun cdv A outer s H E hr => ?_
 unfold bLof
 conv => arg 2; whnf
 apply mss_one ?_
 apply ms_ret ?_
 apply me_and ?d3 ?d4
 case' d3 => apply me_cmp ?d5 fm_in ?d6 ?d7 ?_
 case d5 => exact (op_inM (hu151 hr))
 case' d6 => apply me_ix (ix_M (hu151 hr)) fm_ix ?d8 me_int ?_
 case d8 => exact (me_var (pvk 0 q123))
 case' d7 => apply me_tup ?_
 case' d7 => apply ma_2 me_non ?d10 ?_ ?_
 case' d10 => apply me_ix (ix_M (hu151 hr)) fm_ix ?d11 me_int ?_
 case d11 => exact (me_var (pvk 1 q124))
 case' d4 => apply me_one ?_
 case' d4 => apply me_cmp ?d13 fm_in ?d14 ?d15 ?_
 case d13 => exact (op_inM (hu151 hr))
 case' d14 => apply me_ix (ix_M (hu151 hr)) fm_ix ?d16 me_int ?_
 case d16 => exact (me_var (pvk 0 q123))
 case' d15 => apply me_tup ?_
 case' d15 => apply ma_2 me_str ?d18 ?_ ?_
 case' d18 => apply me_ix (ix_M (hu151 hr)) fm_ix ?d19 me_int ?_
 case d19 => exact (me_var (pvk 1 q124))
 all_goals (try walk_at "late")
theorem okLends (T : Txt P w K mg t) (n : Nat) : FnOk P w K mg base CX0 (n + 1) t.fLends t.dLends ["_law_way_here", "_law_row", "_law_begins"] (spM K (mLends n)) := by
 induction n with
 | zero => exact FnOk.empty
 | succ n ih =>
   have CLboth := Cal.of (okLboth (P := P) (w := w) (base := base) T) T.mLboth T.FLboth.kp T.bLboth
   have CLof := Cal.of (okLof (P := P) (w := w) (base := base) T) T.mLof T.FLof.kp T.bLof
   have CLends := Cal.of ih T.mLends T.FLends.kp T.bLends
   refine FnOk.mono (j := n + 1 + 1) (T.FLends.okM (k := n + 1) scLends rfl fun cdv A outer s H E hr => ?_) (by omega)
   unfold bLends
   conv => arg 2; whnf
   apply mss_cons ?d1 ?d2
   case' d1 => apply ms_set (i := 3) ?d3 ?_ ?d4 ?d5 ?_ ?_
   case d3 => exact scLends.nd
   case d4 => exact (Or.inl q121.lk)
   case' d5 => apply me_ix (ix_M (hu151 hr)) fm_ix ?d6 me_int ?_
   case d6 => exact (me_var (pvk 0 q114))
   case' d2 => apply mss_cons ?d7 ?d8
   case' d7 => apply ms_if ?d9 ?d10 mss_nil
   case' d9 => apply mt_cmp ?d11 fm_eq ?d12 me_str ?_
   case d11 => exact (op_eqK (hu150 hr))
   case d12 => exact (me_var (pvk 3 q121))
   case' d10 => apply mss_one ?_
   case' d10 => apply ms_ret ?_
   case d10 => exact (me_var (pvk 2 q122))
   case' d8 => apply mss_cons ?d15 ?d16
   case' d15 => apply ms_if ?d17 ?d18 mss_nil
   case' d17 => apply mt_cmp ?d19 fm_eq ?d20 me_str ?_
   case d19 => exact (op_eqK (hu150 hr))
   case d20 => exact (me_var (pvk 3 q121))
   case' d18 => apply mss_one ?_
   case' d18 => apply ms_ret ?_
   case' d18 => apply me_cal ?d23 ?_ ?d24 ?d25 ?_ ?_
   case d23 => exact CLends
   case d24 => exact q119
   case' d25 => apply ma_3 ?d26 ?d27 ?d28 ?_ ?_ ?_
   case' d26 => apply me_ix (ix_M (hu151 hr)) fm_ix ?d29 me_int ?_
   case d29 => exact (me_var (pvk 0 q114))
   case d27 => exact (me_var (pvk 1 q117))
   case' d28 => apply me_cal ?d30 ?_ ?d31 ?d32 ?_ ?_
   case d30 => exact CLends
   case d31 => exact q119
   case' d32 => apply ma_3 ?d33 ?d34 ?d35 ?_ ?_ ?_
   case' d33 => apply me_ix (ix_M (hu151 hr)) fm_ix ?d36 me_int ?_
   case d36 => exact (me_var (pvk 0 q114))
   case d34 => exact (me_var (pvk 1 q117))
   case d35 => exact (me_var (pvk 2 q122))
   case' d16 => apply mss_cons ?d37 ?d38
   case' d37 => apply ms_if ?d39 ?d40 mss_nil
   case' d39 => apply mt_cmp ?d41 fm_eq ?d42 me_str ?_
   case d41 => exact (op_eqK (hu150 hr))
   case d42 => exact (me_var (pvk 3 q121))
   case' d40 => apply mss_one ?_
   case' d40 => apply ms_ret ?_
   case' d40 => apply me_cal ?d45 ?_ ?d46 ?d47 ?_ ?_
   case d45 => exact CLboth
   case d46 => exact q120
   case' d47 => apply ma_2 ?d48 ?d49 ?_ ?_
   case' d48 => apply me_cal ?d50 ?_ ?d51 ?d52 ?_ ?_
   case d50 => exact CLends
   case d51 => exact q119
   case' d52 => apply ma_3 ?d53 ?d54 ?d55 ?_ ?_ ?_
   case' d53 => apply me_ix (ix_M (hu151 hr)) fm_ix ?d56 me_int ?_
   case d56 => exact (me_var (pvk 0 q114))
   case d54 => exact (me_var (pvk 1 q117))
   case d55 => exact (me_var (pvk 2 q122))
   case' d49 => apply me_cal ?d57 ?_ ?d58 ?d59 ?_ ?_
   case d57 => exact CLends
   case d58 => exact q119
   case' d59 => apply ma_3 ?d60 ?d61 ?d62 ?_ ?_ ?_
   case' d60 => apply me_ix (ix_M (hu151 hr)) fm_ix ?d63 me_int ?_
   case d63 => exact (me_var (pvk 0 q114))
   case d61 => exact (me_var (pvk 1 q117))
   case d62 => exact (me_var (pvk 2 q122))
   case' d38 => apply mss_cons ?d64 ?d65
   case' d64 => apply ms_if ?d66 ?d67 mss_nil
   case' d66 => apply mt_cmp ?d68 fm_eq ?d69 me_str ?_
   case d68 => exact (op_eqK (hu150 hr))
   case d69 => exact (me_var (pvk 3 q121))
   case' d67 => apply mss_one ?_
   case' d67 => apply ms_ret ?_
   case' d67 => apply me_comp (N' := ["_law_k", "_law_way_here", "_law_row"]) (ix := [none, some 0, some 1]) ?d72 ?_ ?d73 ?d74 ?d75 ?d76 ?d77 ?_
   case d72 => exact ⟨rfl, by decide +kernel, by decide +kernel, comp_free _ _ rfl, rfl, comp_ix _ _ _ _ rfl⟩
   case' d73 => apply cg_name ?_
   case' d74 => apply mi_list ?_
   case d74 => exact (me_var (pvk 2 q122))
   case d75 => (intro _ _ _ _; exact (pgo (i := 0) (by walk_at "n") (show List.Nodup (["_law_k", "_law_way_here", "_law_row"] : List Str) from by decide +kernel) (by rfl)))
   case' d76 => (intro _ _ _ _; apply mts_one ?_)
   case' d76 => apply PW.pt ?_
   case' d76 => apply mw_and ?d81 ?d82
   case' d81 => apply mt_cmp op_ltA fm_lt ?d83 ?d84 ?_
   case d83 => exact (me_var (pvk 0 (NmOk.own (by walk_at "n"))))
   case' d84 => apply me_CB call_lenM fm_len ?d85 ?d86 PySem.boot_len ?d87 ?_ ?_
   case d85 => exact (NmOk.glob (by walk_at "n"))
   case d86 => exact T.z_len
   case' d87 => apply ma_1 ?d88 ?_
   case d88 => exact (me_var (pvf 2 (by walk_at "n")))
   case' d82 => apply mw_and1 ?_
   case' d82 => apply mt_val ?d90 ?_
   case' d90 => apply me_cal ?d91 ?_ ?d92 ?d93 ?_ ?_
   case d91 => exact CLof
   case d92 => exact (NmOk.glob (by walk_at "n"))
   case' d93 => apply ma_2 ?d94 ?d95 ?_ ?_
   case d94 => exact (me_var (pvf 1 (by walk_at "n")))
   case' d95 => apply me_ix (ix_M (hu151 hr)) fm_ix ?d96 ?d97 ?_
   case d96 => exact (me_var (pvf 2 (by walk_at "n")))
   case d97 => exact (me_var (pvk 0 (NmOk.own (by walk_at "n"))))
   case' d77 => (intro _ _ _ _; apply me_op op_addM fm_add ?_ me_int)
   case d77 => exact (me_var (pvk 0 (NmOk.own (by walk_at "n"))))
   case' d65 => apply mss_cons ?d99 ?d100
   case' d99 => apply ms_set (i := 4) ?d101 ?_ ?d102 ?d103 ?_ ?_
   case d101 => exact scLends.nd
   case d102 => exact (Or.inr q113.lk)
   case' d103 => apply me_lst ma_nil
   case' d100 => apply mss_cons ?d104 ?d105
   case' d104 => apply ms_set (i := 5) ?d106 ?_ ?d107 ?d108 ?_ ?_
   case d106 => exact scLends.nd
   case d107 => exact (Or.inl q118.lk)
   case d108 => exact (me_var (pvk 2 q122))
   case' d105 => apply mss_cons ?d109 ?d110
   case' d109 => apply ms_if ?d111 ?d112 mss_nil
   case' d111 => apply mt_cmp ?d113 fm_eq ?d114 me_str ?_
   case d113 => exact (op_eqK (hu150 hr))
   case d114 => exact (me_var (pvk 3 q121))
   case' d112 => apply mss_cons ?d115 ?d116
   case' d115 => apply ms_while _ ?_ ?d117 ?d118
   case' d117 => apply mt_cmp ?d119 fm_ne ?d120 ?d121 ?_
   case d119 => exact (op_neK (hu151 hr))
   case' d120 => apply me_comp (N' := ["_law_k", "_law_found"]) (ix := [none, some 4]) ?d122 ?_ ?d123 ?d124 ?d125 ?d126 ?d127 ?_
   case d122 => exact ⟨rfl, by decide +kernel, by decide +kernel, comp_free _ _ rfl, rfl, comp_ix _ _ _ _ rfl⟩
   case' d123 => apply cg_name ?_
   case' d124 => apply mi_list ?_
   case d124 => exact (me_var (pvk 5 q118))
   case d125 => (intro _ _ _ _; exact (pgo (i := 0) (by walk_at "n") (show List.Nodup (["_law_k", "_law_found"] : List Str) from by decide +kernel) (by rfl)))
   case' d126 => (intro _ _ _ _; apply mts_one ?_)
   case' d126 => apply mt_cmp ?d130 fm_notIn ?d131 ?d132 ?_
   case d130 => exact (op_notInM (hu151 hr))
   case d131 => exact (me_var (pvk 0 (NmOk.own (by walk_at "n"))))
   case d132 => exact (me_var (pvf 1 (by walk_at "n")))
   case d127 => (intro _ _ _ _; exact (me_var (pvk 0 (NmOk.own (by walk_at "n")))))
   case' d121 => apply me_lst ma_nil
   case' d118 => apply mss_cons ?d133 ?d134
   case' d133 => apply ms_set (i := 4) ?d135 ?_ ?d136 ?d137 ?_ ?_
   case d135 => exact scLends.nd
   case d136 => exact (Or.inr q113.lk)
   case' d137 => apply me_cal ?d138 ?_ ?d139 ?d140 ?_ ?_
   case d138 => exact CLboth
   case d139 => exact q120
   case' d140 => apply ma_2 ?d141 ?d142 ?_ ?_
   case d141 => exact (me_var (pvk 4 q113))
   case d142 => exact (me_var (pvk 5 q118))
   case' d134 => apply mss_one ?_
   case' d134 => apply ms_set (i := 5) ?d144 ?_ ?d145 ?d146 ?_ ?_
   case d144 => exact scLends.nd
   case d145 => exact (Or.inl q118.lk)
   case' d146 => apply me_cal ?d147 ?_ ?d148 ?d149 ?_ ?_
   case d147 => exact CLends
   case d148 => exact q119
   case' d149 => apply ma_3 ?d150 ?d151 ?d152 ?_ ?_ ?_
   case' d150 => apply me_ix (ix_M (hu151 hr)) fm_ix ?d153 me_int ?_
   case d153 => exact (me_var (pvk 0 q114))
   case d151 => exact (me_var (pvk 1 q117))
   case d152 => exact (me_var (pvk 5 q118))
   case' d116 => apply mss_one ?_
   case' d116 => apply ms_ret ?_
   case d116 => exact (me_var (pvk 4 q113))
   case' d110 => apply mss_cons ?d156 ?d157
   case' d156 => apply ms_for ?_ ?_ ?d158 ?d159 ?d160 ?_
   case' d158 => apply mi_range1 ?d161 ?d162 ?d163 ?_
   case d161 => exact q115.lk
   case d162 => exact T.z_range
   case' d163 => apply ma_1 ?d164 ?_
   case' d164 => apply me_op op_addM fm_add ?_ me_int
   case' d164 => apply me_ix (ix_M (hu151 hr)) fm_ix ?d166 me_int ?_
   case d166 => exact (me_var (pvk 0 q114))
   case' d159 => apply mg_name ?_
   case' d159 => apply pg_name (i := 6) ?d168 ?_ ?d169 ?_
   case d168 => exact scLends.nd
   case d169 => exact (Or.inl q116.lk)
   case' d160 => apply mss_cons ?d170 ?d171
   case' d170 => apply ms_if ?d172 ?d173 mss_nil
   case' d172 => apply mt_cmp op_geA fm_ge ?d174 ?d175 ?_
   case d174 => exact (me_var (pvk 6 q116))
   case' d175 => apply me_ix (ix_M (hu151 hr)) fm_ix ?d176 me_int ?_
   case d176 => exact (me_var (pvk 0 q114))
   case' d173 => apply mss_one ?_
   case' d173 => apply ms_set (i := 4) ?d178 ?_ ?d179 ?d180 ?_ ?_
   case d178 => exact scLends.nd
   case d179 => exact (Or.inr q113.lk)
   case' d180 => apply me_cal ?d181 ?_ ?d182 ?d183 ?_ ?_
   case d181 => exact CLboth
   case d182 => exact q120
   case' d183 => apply ma_2 ?d184 ?d185 ?_ ?_
   case d184 => exact (me_var (pvk 4 q113))
   case d185 => exact (me_var (pvk 5 q118))
   case' d171 => apply mss_one ?_
   case' d171 => apply ms_set (i := 5) ?d187 ?_ ?d188 ?d189 ?_ ?_
   case d187 => exact scLends.nd
   case d188 => exact (Or.inl q118.lk)
   case' d189 => apply me_cal ?d190 ?_ ?d191 ?d192 ?_ ?_
   case d190 => exact CLends
   case d191 => exact q119
   case' d192 => apply ma_3 ?d193 ?d194 ?d195 ?_ ?_ ?_
   case' d193 => apply me_ix (ix_M (hu151 hr)) fm_ix ?d196 me_int ?_
   case d196 => exact (me_var (pvk 0 q114))
   case d194 => exact (me_var (pvk 1 q117))
   case d195 => exact (me_var (pvk 5 q118))
   case' d157 => apply mss_one ?_
   case' d157 => apply ms_ret ?_
   case d157 => exact (me_var (pvk 4 q113))
   all_goals (try walk_at "late")
theorem okLtells (T : Txt P w K mg t) : FnOk P w K mg base CX0 14 t.fLtells t.dLtells ["_law_way_here", "_law_row"] (spM K mLtells) := by
 have CLends := Cal.of (okLends (P := P) (w := w) (base := base) T 12) T.mLends T.FLends.kp T.bLends
 refine T.FLtells.okM (k := 13) scLtells rfl fun cdv A outer s H E hr => ?_
 unfold bLtells
 conv => arg 2; whnf
 apply mss_one ?_
 apply ms_ret ?_
 apply me_cmp ?d3 fm_in ?d4 ?d5 ?_
 case d3 => exact (op_inM (hu151 hr))
 case' d4 => apply me_CB call_lenM fm_len ?d6 ?d7 PySem.boot_len ?d8 ?_ ?_
 case d6 => exact q126
 case d7 => exact T.z_len
 case' d8 => apply ma_1 ?d9 ?_
 case d9 => exact (me_var (pvk 1 q125))
 case' d5 => apply me_cal ?d10 ?_ ?d11 ?d12 ?_ ?_
 case d10 => exact CLends
 case d11 => exact q128
 case' d12 => apply ma_3 ?d13 ?d14 ?d15 ?_ ?_ ?_
 case d13 => exact (me_var (pvk 0 q127))
 case d14 => exact (me_var (pvk 1 q125))
 case' d15 => apply me_lst ?_
 case' d15 => apply ma_1 me_int ?_
 all_goals (try walk_at "late")
theorem okLrow_of (T : Txt P w K mg t) (n : Nat) : FnOk P w K mg base CX0 (n + 1) t.fLrow_of t.dLrow_of ["_law_hand_here", "_law_way_here", "_law_kinds_here"] (spM K (mLrow_of n)) := by
 induction n with
 | zero => exact FnOk.empty
 | succ n ih =>
   have CLtake := Cal.of (okLtake (P := P) (w := w) (base := base) T) T.mLtake T.FLtake.kp T.bLtake
   have CLrow_of := Cal.of ih T.mLrow_of T.FLrow_of.kp T.bLrow_of
   refine FnOk.mono (j := n + 1 + 1) (T.FLrow_of.okM (k := n + 1) scLrow_of rfl fun cdv A outer s H E hr => ?_) (by omega)
   unfold bLrow_of
   conv => arg 2; whnf
   apply mss_cons ?d1 ?d2
   case' d1 => apply ms_set (i := 3) ?d3 ?_ ?d4 ?d5 ?_ ?_
   case d3 => exact scLrow_of.nd
   case d4 => exact (Or.inl q137.lk)
   case' d5 => apply me_ix (ix_M (hu151 hr)) fm_ix ?d6 me_int ?_
   case d6 => exact (me_var (pvk 1 q134))
   case' d2 => apply mss_cons ?d7 ?d8
   case' d7 => apply ms_if ?d9 ?d10 mss_nil
   case' d9 => apply mt_cmp ?d11 fm_eq ?d12 me_str ?_
   case d11 => exact (op_eqK (hu150 hr))
   case d12 => exact (me_var (pvk 3 q137))
   case' d10 => apply mss_cons ?d13 ?d14
   case' d13 => apply ms_par (i := 4) (j := 5) ?_ ?d15 ?_ ?_ ?_ ?d16 ?d17 ?d18 ?_ ?_
   case d15 => exact scLrow_of.nd
   case d16 => exact q139.lk
   case d17 => exact q132.lk
   case' d18 => apply ma_2 ?d19 ?d20 ?_ ?_
   case' d19 => apply me_ix (ix_M (hu151 hr)) fm_ix ?d21 me_int ?_
   case d21 => exact (me_var (pvk 1 q134))
   case' d20 => apply me_ix (ix_M (hu151 hr)) fm_ix ?d22 me_int ?_
   case d22 => exact (me_var (pvk 1 q134))
   case' d14 => apply mss_cons ?d23 ?d24
   case' d23 => apply ms_if ?d25 ?d26 mss_nil
   case' d25 => apply mt_cmp op_isA fm_is ?d27 me_non ?_
   case d27 => exact (me_var (pvk 4 q139))
   case' d26 => apply mss_one ?_
   case' d26 => apply ms_set (i := 4) ?d29 ?_ ?d30 ?d31 ?_ ?_
   case d29 => exact scLrow_of.nd
   case d30 => exact (Or.inl q139.lk)
   case' d31 => apply me_ix (ix_M (hu151 hr)) fm_ix ?d32 ?d33 ?_
   case' d32 => apply me_op op_addM fm_add ?d34 ?d35
   case d34 => exact (me_var (pvk 2 q135))
   case' d35 => apply me_lst ?_
   case' d35 => apply ma_1 me_str ?_
   case' d33 => apply me_cal ?d37 ?_ ?d38 ?d39 ?_ ?_
   case d37 => exact CLtake
   case d38 => exact q138
   case' d39 => apply ma_2 ?d40 ?d41 ?_ ?_
   case d40 => exact (me_var (pvk 0 q133))
   case' d41 => apply me_op op_addM fm_add ?_ me_int
   case' d41 => apply me_CB call_lenM fm_len ?d43 ?d44 PySem.boot_len ?d45 ?_ ?_
   case d43 => exact q140
   case d44 => exact T.z_len
   case' d45 => apply ma_1 ?d46 ?_
   case d46 => exact (me_var (pvk 2 q135))
   case' d24 => apply mss_cons ?d47 ?d48
   case' d47 => apply ms_if ?d49 ?d50 mss_nil
   case' d49 => apply mt_cmp ?d51 fm_eq ?d52 me_str ?_
   case d51 => exact (op_eqK (hu150 hr))
   case d52 => exact (me_var (pvk 5 q132))
   case' d50 => apply mss_one ?_
   case' d50 => apply ms_set (i := 5) ?d54 ?_ ?d55 ?d56 ?_ ?_
   case d54 => exact scLrow_of.nd
   case d55 => exact (Or.inl q132.lk)
   case' d56 => apply me_ix (ix_M (hu151 hr)) fm_ix ?d57 ?d58 ?_
   case' d57 => apply me_tup ?_
   case' d57 => apply ma_2 me_str me_str ?_ ?_
   case' d58 => apply me_cal ?d60 ?_ ?d61 ?d62 ?_ ?_
   case d60 => exact CLtake
   case d61 => exact q138
   case' d62 => apply ma_2 ?d63 me_int ?_ ?_
   case d63 => exact (me_var (pvk 0 q133))
   case' d48 => apply mss_one ?_
   case' d48 => apply ms_ret ?_
   case' d48 => apply me_tup ?_
   case' d48 => apply ma_1 ?d67 ?_
   case' d67 => apply me_tup ?_
   case' d67 => apply ma_2 ?d69 ?d70 ?_ ?_
   case d69 => exact (me_var (pvk 4 q139))
   case d70 => exact (me_var (pvk 5 q132))
   case' d8 => apply mss_cons ?d71 ?d72
   case' d71 => apply ms_if ?d73 ?d74 mss_nil
   case' d73 => apply mt_cmp ?d75 fm_eq ?d76 me_str ?_
   case d75 => exact (op_eqK (hu150 hr))
   case d76 => exact (me_var (pvk 3 q137))
   case' d74 => apply mss_one ?_
   case' d74 => apply ms_ret ?_
   case' d74 => apply me_op op_addM fm_add ?d79 ?d80
   case' d79 => apply me_cal ?d81 ?_ ?d82 ?d83 ?_ ?_
   case d81 => exact CLrow_of
   case d82 => exact q136
   case' d83 => apply ma_3 ?d84 ?d85 ?d86 ?_ ?_ ?_
   case d84 => exact (me_var (pvk 0 q133))
   case' d85 => apply me_ix (ix_M (hu151 hr)) fm_ix ?d87 me_int ?_
   case d87 => exact (me_var (pvk 1 q134))
   case d86 => exact (me_var (pvk 2 q135))
   case' d80 => apply me_cal ?d88 ?_ ?d89 ?d90 ?_ ?_
   case d88 => exact CLrow_of
   case d89 => exact q136
   case' d90 => apply ma_3 ?d91 ?d92 ?d93 ?_ ?_ ?_
   case d91 => exact (me_var (pvk 0 q133))
   case' d92 => apply me_ix (ix_M (hu151 hr)) fm_ix ?d94 me_int ?_
   case d94 => exact (me_var (pvk 1 q134))
   case d93 => exact (me_var (pvk 2 q135))
   case' d72 => apply mss_cons ?d95 ?d96
   case' d95 => apply ms_if ?d97 ?d98 mss_nil
   case' d97 => apply mt_cmp ?d99 fm_eq ?d100 me_str ?_
   case d99 => exact (op_eqK (hu150 hr))
   case d100 => exact (me_var (pvk 3 q137))
   case' d98 => apply mss_one ?_
   case' d98 => apply ms_ret ?_
   case' d98 => apply me_cal ?d103 ?_ ?d104 ?d105 ?_ ?_
   case d103 => exact CLrow_of
   case d104 => exact q136
   case' d105 => apply ma_3 ?d106 ?d107 ?d108 ?_ ?_ ?_
   case d106 => exact (me_var (pvk 0 q133))
   case' d107 => apply me_ix (ix_M (hu151 hr)) fm_ix ?d109 ?d110 ?_
   case d109 => exact (me_var (pvk 1 q134))
   case' d110 => apply me_op op_addM fm_add me_int ?_
   case' d110 => apply me_cal ?d112 ?_ ?d113 ?d114 ?_ ?_
   case d112 => exact CLtake
   case d113 => exact q138
   case' d114 => apply ma_2 ?d115 me_int ?_ ?_
   case d115 => exact (me_var (pvk 0 q133))
   case d108 => exact (me_var (pvk 2 q135))
   case' d96 => apply mss_cons ?d116 ?d117
   case' d116 => apply ms_set (i := 6) ?d118 ?_ ?d119 me_int ?_ ?_
   case d118 => exact scLrow_of.nd
   case d119 => exact (Or.inl q130.lk)
   case' d117 => apply mss_cons ?d120 ?d121
   case' d120 => apply ms_if ?d122 ?d123 mss_nil
   case' d122 => apply mt_cmp ?d124 fm_eq ?d125 me_str ?_
   case d124 => exact (op_eqK (hu150 hr))
   case d125 => exact (me_var (pvk 3 q137))
   case' d123 => apply mss_one ?_
   case' d123 => apply ms_set (i := 6) ?d127 ?_ ?d128 ?d129 ?_ ?_
   case d127 => exact scLrow_of.nd
   case d128 => exact (Or.inl q130.lk)
   case' d129 => apply me_cal ?d130 ?_ ?d131 ?d132 ?_ ?_
   case d130 => exact CLtake
   case d131 => exact q138
   case' d132 => apply ma_2 ?d133 me_int ?_ ?_
   case d133 => exact (me_var (pvk 0 q133))
   case' d121 => apply mss_cons ?d134 ?d135
   case' d134 => apply ms_if ?d136 ?d137 mss_nil
   case' d136 => apply mt_cmp ?d138 fm_eq ?d139 me_str ?_
   case d138 => exact (op_eqK (hu150 hr))
   case d139 => exact (me_var (pvk 3 q137))
   case' d137 => apply mss_one ?_
   case' d137 => apply ms_set (i := 6) ?d141 ?_ ?d142 ?d143 ?_ ?_
   case d141 => exact scLrow_of.nd
   case d142 => exact (Or.inl q130.lk)
   case' d143 => apply me_op op_addM fm_add ?d144 ?d145
   case' d144 => apply me_ix (ix_M (hu151 hr)) fm_ix ?d146 me_int ?_
   case d146 => exact (me_var (pvk 1 q134))
   case' d145 => apply me_cal ?d147 ?_ ?d148 ?d149 ?_ ?_
   case d147 => exact CLtake
   case d148 => exact q138
   case' d149 => apply ma_2 ?d150 ?d151 ?_ ?_
   case d150 => exact (me_var (pvk 0 q133))
   case' d151 => apply me_op op_addM fm_add ?_ me_int
   case' d151 => apply me_op op_sub fm_sub ?d153 ?d154
   case' d153 => apply me_ix (ix_M (hu151 hr)) fm_ix ?d155 me_int ?_
   case d155 => exact (me_var (pvk 1 q134))
   case' d154 => apply me_ix (ix_M (hu151 hr)) fm_ix ?d156 me_int ?_
   case d156 => exact (me_var (pvk 1 q134))
   case' d135 => apply mss_cons ?d157 ?d158
   case' d157 => apply ms_set (i := 7) ?d159 ?_ ?d160 ?d161 ?_ ?_
   case d159 => exact scLrow_of.nd
   case d160 => exact (Or.inl q129.lk)
   case' d161 => apply me_tup ma_nil
   case' d158 => apply mss_cons ?d162 ?d163
   case' d162 => apply ms_for ?_ ?_ ?d164 ?d165 ?d166 ?_
   case' d164 => apply mi_range1 ?d167 ?d168 ?d169 ?_
   case d167 => exact q131.lk
   case d168 => exact T.z_range
   case' d169 => apply ma_1 ?d170 ?_
   case d170 => exact (me_var (pvk 6 q130))
   case' d165 => apply mg_name ?_
   case' d165 => apply pg_name (i := 5) ?d172 ?_ ?d173 ?_
   case d172 => exact scLrow_of.nd
   case d173 => exact (Or.inl q132.lk)
   case' d166 => apply mss_one ?_
   case' d166 => apply ms_set (i := 7) ?d175 ?_ ?d176 ?d177 ?_ ?_
   case d175 => exact scLrow_of.nd
   case d176 => exact (Or.inl q129.lk)
   case' d177 => apply me_op op_addM fm_add ?d178 ?d179
   case d178 => exact (me_var (pvk 7 q129))
   case' d179 => apply me_cal ?d180 ?_ ?d181 ?d182 ?_ ?_
   case d180 => exact CLrow_of
   case d181 => exact q136
   case' d182 => apply ma_3 ?d183 ?d184 ?d185 ?_ ?_ ?_
   case d183 => exact (me_var (pvk 0 q133))
   case' d184 => apply me_ix (ix_M (hu151 hr)) fm_ix ?d186 me_int ?_
   case d186 => exact (me_var (pvk 1 q134))
   case d185 => exact (me_var (pvk 2 q135))
   case' d163 => apply mss_one ?_
   case' d163 => apply ms_ret ?_
   case d163 => exact (me_var (pvk 7 q129))
   all_goals (try walk_at "late")
theorem okLchanged (T : Txt P w K mg t) : FnOk P w K mg base CX0 2 t.fLchanged t.dLchanged ["_law_hand_here", "_law_row", "_law_kinds_here"] (spM K mLchanged) := by
 have CLtake := Cal.of (okLtake (P := P) (w := w) (base := base) T) T.mLtake T.FLtake.kp T.bLtake
 refine T.FLchanged.okM (k := 1) scLchanged rfl fun cdv A outer s H E hr => ?_
 unfold bLchanged
 conv => arg 2; whnf
 apply mss_cons ?d1 ?d2
 case' d1 => apply ms_set (i := 3) ?d3 ?_ ?d4 ?d5 ?_ ?_
 case d3 => exact scLchanged.nd
 case d4 => exact (Or.inl q144.lk)
 case' d5 => apply me_cal ?d6 ?_ ?d7 ?d8 ?_ ?_
 case d6 => exact CLtake
 case d7 => exact q149
 case' d8 => apply ma_2 ?d9 me_int ?_ ?_
 case d9 => exact (me_var (pvk 0 q147))
 case' d2 => apply mss_cons ?d10 ?d11
 case' d10 => apply ms_set (i := 4) ?d12 ?_ ?d13 ?d14 ?_ ?_
 case d12 => exact scLchanged.nd
 case d13 => exact (Or.inl q146.lk)
 case' d14 => apply me_tup ?_
 case' d14 => apply ma_2 ?d16 ?d17 ?_ ?_
 case' d16 => apply me_ix (ix_M (hu151 hr)) fm_ix ?d18 ?d19 ?_
 case' d18 => apply me_op op_addM fm_add ?d20 ?d21
 case d20 => exact (me_var (pvk 2 q150))
 case' d21 => apply me_lst ?_
 case' d21 => apply ma_1 me_str ?_
 case' d19 => apply me_cal ?d23 ?_ ?d24 ?d25 ?_ ?_
 case d23 => exact CLtake
 case d24 => exact q149
 case' d25 => apply ma_2 ?d26 ?d27 ?_ ?_
 case d26 => exact (me_var (pvk 0 q147))
 case' d27 => apply me_op op_addM fm_add ?_ me_int
 case' d27 => apply me_CB call_lenM fm_len ?d29 ?d30 PySem.boot_len ?d31 ?_ ?_
 case d29 => exact q148
 case d30 => exact T.z_len
 case' d31 => apply ma_1 ?d32 ?_
 case d32 => exact (me_var (pvk 2 q150))
 case' d17 => apply me_ix (ix_M (hu151 hr)) fm_ix ?d33 ?d34 ?_
 case' d33 => apply me_tup ?_
 case' d33 => apply ma_2 me_str me_str ?_ ?_
 case' d34 => apply me_cal ?d36 ?_ ?d37 ?d38 ?_ ?_
 case d36 => exact CLtake
 case d37 => exact q149
 case' d38 => apply ma_2 ?d39 me_int ?_ ?_
 case d39 => exact (me_var (pvk 0 q147))
 case' d11 => apply mss_cons ?d40 ?d41
 case' d40 => apply ms_set (i := 5) ?d42 ?_ ?d43 ?d44 ?_ ?_
 case d42 => exact scLchanged.nd
 case d43 => exact (Or.inl q145.lk)
 case' d44 => apply me_cal ?d45 ?_ ?d46 ?d47 ?_ ?_
 case d45 => exact CLtake
 case d46 => exact q149
 case' d47 => apply ma_2 ?d48 ?d49 ?_ ?_
 case d48 => exact (me_var (pvk 0 q147))
 case' d49 => apply me_op op_addM fm_add ?_ me_int
 case' d49 => apply me_CB call_lenM fm_len ?d51 ?d52 PySem.boot_len ?d53 ?_ ?_
 case d51 => exact q148
 case d52 => exact T.z_len
 case' d53 => apply ma_1 ?d54 ?_
 case d54 => exact (me_var (pvk 1 q141))
 case' d41 => apply mss_cons ?d55 ?d56
 case' d55 => apply ms_if ?d57 ?d58 mss_nil
 case' d57 => apply mt_cmp ?d59 fm_eq ?d60 me_int ?_
 case d59 => exact (op_eqK (hu150 hr))
 case d60 => exact (me_var (pvk 3 q144))
 case' d58 => apply mss_one ?_
 case' d58 => apply ms_ret ?_
 case d58 => exact (me_var (pvk 1 q141))
 case' d56 => apply mss_cons ?d63 ?d64
 case' d63 => apply ms_if ?d65 ?d66 mss_nil
 case' d65 => apply mt_cmp ?d67 fm_eq ?d68 me_int ?_
 case d67 => exact (op_eqK (hu150 hr))
 case d68 => exact (me_var (pvk 3 q144))
 case' d66 => apply mss_one ?_
 case' d66 => apply ms_ret ?_
 case' d66 => apply me_op op_addM fm_add ?d71 ?d72
 case' d71 => apply me_slice sl_M fm_sl ?d73 mo_none ?d74
 case d73 => exact (me_var (pvk 1 q141))
 case' d74 => apply mo_some ?_
 case d74 => exact (me_var (pvk 5 q145))
 case' d72 => apply me_slice sl_M fm_sl ?d76 ?d77 mo_none
 case d76 => exact (me_var (pvk 1 q141))
 case' d77 => apply mo_some ?_
 case' d77 => apply me_op op_addM fm_add ?_ me_int
 case d77 => exact (me_var (pvk 5 q145))
 case' d64 => apply mss_cons ?d80 ?d81
 case' d80 => apply ms_if ?d82 ?d83 mss_nil
 case' d82 => apply mt_cmp ?d84 fm_eq ?d85 me_int ?_
 case d84 => exact (op_eqK (hu150 hr))
 case d85 => exact (me_var (pvk 3 q144))
 case' d83 => apply mss_one ?_
 case' d83 => apply ms_ret ?_
 case' d83 => apply me_op op_addM fm_add ?d88 ?d89
 case' d88 => apply me_op op_addM fm_add ?d90 ?d91
 case' d90 => apply me_slice sl_M fm_sl ?d92 mo_none ?d93
 case d92 => exact (me_var (pvk 1 q141))
 case' d93 => apply mo_some ?_
 case d93 => exact (me_var (pvk 5 q145))
 case' d91 => apply me_slice sl_M fm_sl ?d95 ?d96 ?d97
 case d95 => exact (me_var (pvk 1 q141))
 case' d96 => apply mo_some ?_
 case d96 => exact (me_var (pvk 5 q145))
 case' d97 => apply mo_some ?_
 case' d97 => apply me_op op_addM fm_add ?_ me_int
 case d97 => exact (me_var (pvk 5 q145))
 case' d89 => apply me_slice sl_M fm_sl ?d101 ?d102 mo_none
 case d101 => exact (me_var (pvk 1 q141))
 case' d102 => apply mo_some ?_
 case d102 => exact (me_var (pvk 5 q145))
 case' d81 => apply mss_cons ?d104 ?d105
 case' d104 => apply ms_if ?d106 ?d107 mss_nil
 case' d106 => apply mt_cmp ?d108 fm_eq ?d109 me_int ?_
 case d108 => exact (op_eqK (hu150 hr))
 case d109 => exact (me_var (pvk 3 q144))
 case' d107 => apply mss_one ?_
 case' d107 => apply ms_ret ?_
 case' d107 => apply me_op op_addM fm_add ?d112 ?d113
 case' d112 => apply me_op op_addM fm_add ?d114 ?d115
 case' d114 => apply me_slice sl_M fm_sl ?d116 mo_none ?d117
 case d116 => exact (me_var (pvk 1 q141))
 case' d117 => apply mo_some ?_
 case d117 => exact (me_var (pvk 5 q145))
 case' d115 => apply me_tup ?_
 case' d115 => apply ma_1 ?d120 ?_
 case d120 => exact (me_var (pvk 4 q146))
 case' d113 => apply me_slice sl_M fm_sl ?d121 ?d122 mo_none
 case d121 => exact (me_var (pvk 1 q141))
 case' d122 => apply mo_some ?_
 case d122 => exact (me_var (pvk 5 q145))
 case' d105 => apply mss_cons ?d124 ?d125
 case' d124 => apply ms_if ?d126 ?d127 mss_nil
 case' d126 => apply mt_cmp ?d128 fm_eq ?d129 me_int ?_
 case d128 => exact (op_eqK (hu150 hr))
 case d129 => exact (me_var (pvk 3 q144))
 case' d127 => apply mss_one ?_
 case' d127 => apply ms_ret ?_
 case' d127 => apply me_op op_addM fm_add ?d132 ?d133
 case' d132 => apply me_op op_addM fm_add ?d134 ?d135
 case' d134 => apply me_slice sl_M fm_sl ?d136 mo_none ?d137
 case d136 => exact (me_var (pvk 1 q141))
 case' d137 => apply mo_some ?_
 case d137 => exact (me_var (pvk 5 q145))
 case' d135 => apply me_tup ?_
 case' d135 => apply ma_1 ?d140 ?_
 case d140 => exact (me_var (pvk 4 q146))
 case' d133 => apply me_slice sl_M fm_sl ?d141 ?d142 mo_none
 case d141 => exact (me_var (pvk 1 q141))
 case' d142 => apply mo_some ?_
 case' d142 => apply me_op op_addM fm_add ?_ me_int
 case d142 => exact (me_var (pvk 5 q145))
 case' d125 => apply mss_one ?_
 case' d125 => apply ms_ret ?_
 case' d125 => apply me_tupRev ?_ ?d147 ?d148 ?d149 ?d150 ?d151 ?_
 case d147 => exact q142
 case d148 => exact T.z_tuple
 case d149 => exact q143
 case d150 => exact T.z_reversed
 case d151 => exact (me_var (pvk 1 q141))
 all_goals (try walk_at "late")
theorem okLback (T : Txt P w K mg t) : FnOk P w K mg base CX0 1 t.fLback t.dLback ["_law_row"] (spM K mLback) := by
 refine T.FLback.okM (k := 0) scLback rfl fun cdv A outer s H E hr => ?_
 unfold bLback
 conv => arg 2; whnf
 apply mss_one ?_
 apply ms_ret ?_
 apply me_CTy call_tuple_of fm_tuple ?d3 ?d4 ?_ ?d5 ?_ ?_
 case d3 => exact q153
 case d4 => exact T.z_tuple
 case' d5 => apply ma_1 ?d6 ?_
 case' d6 => apply me_comp (N' := ["_law_kind", "_law_turn"]) (ix := [none, none]) ?d7 ?_ ?d8 ?d9 ?d10 ?d11 ?d12 ?_
 case d7 => exact ⟨rfl, by decide +kernel, by decide +kernel, comp_free _ _ rfl, rfl, comp_ix _ _ _ _ rfl⟩
 case d8 => exact (id (cg_tup (cgs_cons (cg_name rfl) (cgs_cons (cg_name rfl) cgs_nil))))
 case' d9 => apply mi_rev ?_ ?d13 ?d14 ?d15 ?_
 case d13 => exact q152
 case d14 => exact T.z_reversed
 case d15 => exact (me_var (pvk 0 q151))
 case' d10 => (intro _ _ _ _; apply pg_tup ?_ ?d16 ?_ ?_)
 case' d16 => apply pgs_cons ?d17 ?d18 ?_
 case d17 => exact (pgo (i := 0) (by walk_at "n") (show List.Nodup (["_law_kind", "_law_turn"] : List Str) from by decide +kernel) (by rfl))
 case' d18 => apply pgs_cons ?d19 ?d20 ?_
 case d19 => exact (pgo (i := 1) (by walk_at "n") (show List.Nodup (["_law_kind", "_law_turn"] : List Str) from by decide +kernel) (by rfl))
 case d20 => exact pgs_nil
 case d11 => (intro _ _ _ _; exact mts_nil)
 case' d12 => (intro _ _ _ _; apply me_tup ?_)
 case' d12 => apply ma_2 ?d22 ?d23 ?_ ?_
 case d22 => exact (me_var (pvk 0 (NmOk.own (by walk_at "n"))))
 case' d23 => apply me_ix (ix_M (hu151 hr)) fm_ix ?d24 ?d25 ?_
 case' d24 => apply me_dsp ?d26 ?_ ?_ ?_ ?_
 case' d26 => apply mp_cons me_str me_str ?_
 case' d26 => apply mp_cons me_str me_str mp_nil
 case d25 => exact (me_var (pvk 1 (NmOk.own (by walk_at "n"))))
 all_goals (try walk_at "late")
theorem okLright (T : Txt P w K mg t) : FnOk P w K mg base CX0 27 t.fLright t.dLright ["_law_way_here", "_law_other", "_law_again", "_law_row"] (spM K mLright) := by
 have CLtells := Cal.of (okLtells (P := P) (w := w) (base := base) T) T.mLtells T.FLtells.kp T.bLtells
 have C_tells := Cal.of (ok_tells (P := P) (w := w) (base := base) T) T.m_tells T.F_tells.kp T.b_tells
 have CLback := Cal.of (okLback (P := P) (w := w) (base := base) T) T.mLback T.FLback.kp T.bLback
 refine T.FLright.okM (k := 26) scLright rfl fun cdv A outer s H E hr => ?_
 unfold bLright
 conv => arg 2; whnf
 apply mss_cons ?d1 ?d2
 case' d1 => apply ms_set (i := 4) ?d3 ?_ ?d4 ?d5 ?_ ?_
 case d3 => exact scLright.nd
 case d4 => exact (Or.inl q157.lk)
 case' d5 => apply me_cal ?d6 ?_ ?d7 ?d8 ?_ ?_
 case d6 => exact CLtells
 case d7 => exact q161
 case' d8 => apply ma_2 ?d9 ?d10 ?_ ?_
 case d9 => exact (me_var (pvk 0 q160))
 case d10 => exact (me_var (pvk 3 q155))
 case' d2 => apply mss_one ?_
 case' d2 => apply ms_ret ?_
 case' d2 => apply me_and ?d13 ?d14
 case' d13 => apply me_cmp ?d15 fm_eq ?d16 ?d17 ?_
 case d15 => exact (op_eqK (hu150 hr))
 case' d16 => apply me_cal ?d18 ?_ ?d19 ?d20 ?_ ?_
 case d18 => exact C_tells
 case d19 => exact q156
 case' d20 => apply ma_2 ?d21 ?d22 ?_ ?_
 case d21 => exact (me_var (pvk 1 q158))
 case' d22 => apply me_cal ?d23 ?_ ?d24 ?d25 ?_ ?_
 case d23 => exact CLback
 case d24 => exact q159
 case' d25 => apply ma_1 ?d26 ?_
 case d26 => exact (me_var (pvk 3 q155))
 case d17 => exact (me_var (pvk 4 q157))
 case' d14 => apply me_one ?_
 case' d14 => apply me_cmp ?d28 fm_eq ?d29 ?d30 ?_
 case d28 => exact (op_eqK (hu150 hr))
 case' d29 => apply me_cal ?d31 ?_ ?d32 ?d33 ?_ ?_
 case d31 => exact C_tells
 case d32 => exact q156
 case' d33 => apply ma_2 ?d34 ?d35 ?_ ?_
 case d34 => exact (me_var (pvk 2 q154))
 case d35 => exact (me_var (pvk 3 q155))
 case d30 => exact (me_var (pvk 4 q157))
 all_goals (try walk_at "late")
theorem ok_law (T : Txt P w K mg t) : FnOk P w K mg base CX0 28 t.f_law t.d_law ["_law_script"] (spM K m_law) := by
 have CLhand := Cal.of (okLhand (P := P) (w := w) (base := base) T) T.mLhand T.FLhand.kp T.bLhand
 have CLkinds := Cal.of (okLkinds (P := P) (w := w) (base := base) T) T.mLkinds T.FLkinds.kp T.bLkinds
 have CLway := Cal.of (okLway (P := P) (w := w) (base := base) T 12) T.mLway T.FLway.kp T.bLway
 have C_turned := Cal.of (ok_turned (P := P) (w := w) (base := base) T 12) T.m_turned T.F_turned.kp T.b_turned
 have C_is_way := Cal.of (ok_is_way (P := P) (w := w) (base := base) T 12) T.m_is_way T.F_is_way.kp T.b_is_way
 have CLright := Cal.of (okLright (P := P) (w := w) (base := base) T) T.mLright T.FLright.kp T.bLright
 have C_least_steps := Cal.of (ok_least_steps (P := P) (w := w) (base := base) T 12) T.m_least_steps T.F_least_steps.kp T.b_least_steps
 have C_is_endless := Cal.of (ok_is_endless (P := P) (w := w) (base := base) T 12) T.m_is_endless T.F_is_endless.kp T.b_is_endless
 have CLrow_of := Cal.of (okLrow_of (P := P) (w := w) (base := base) T 12) T.mLrow_of T.FLrow_of.kp T.bLrow_of
 have CLtake := Cal.of (okLtake (P := P) (w := w) (base := base) T) T.mLtake T.FLtake.kp T.bLtake
 have CLchanged := Cal.of (okLchanged (P := P) (w := w) (base := base) T) T.mLchanged T.FLchanged.kp T.bLchanged
 refine T.F_law.okM (k := 27) sc_law rfl fun cdv A outer s H E hr => ?_
 unfold b_law
 conv => arg 2; whnf
 apply mss_cons ?d1 ?d2
 case' d1 => apply ms_for ?_ ?_ ?d3 ?d4 ?d5 ?_
 case' d3 => apply mi_range1 ?d6 ?d7 ?d8 ?_
 case d6 => exact q165.lk
 case d7 => exact T.z_range
 case' d8 => apply ma_1 ?d9 ?_
 case' d9 => apply me_op op_addM fm_add me_int ?_
 case' d9 => apply me_CB ?d11 fm_min ?d12 ?d13 PyProof.Rows.boot_min ?d14 ?_ ?_
 case d11 => exact (call_min2 rfl)
 case d12 => exact q164
 case d13 => exact T.z_min
 case' d14 => apply ma_2 me_int ?d15 ?_ ?_
 case' d15 => apply me_CB call_lenM fm_len ?d16 ?d17 PySem.boot_len ?d18 ?_ ?_
 case d16 => exact q163
 case d17 => exact T.z_len
 case' d18 => apply ma_1 ?d19 ?_
 case d19 => exact (me_var (pvk 0 q162))
 case' d4 => apply mg_name ?_
 case' d4 => apply pg_name (i := 1) ?d21 ?_ ?d22 ?_
 case d21 => exact sc_law.nd
 case d22 => exact (Or.inl q166.lk)
 case' d5 => apply mss_cons ?d23 ?d24
 case' d23 => apply ms_set (i := 2) ?d25 ?_ ?d26 ?d27 ?_ ?_
 case d25 => exact sc_law.nd
 case d26 => exact (Or.inl q171.lk)
 case' d27 => apply me_cal ?d28 ?_ ?d29 ?d30 ?_ ?_
 case d28 => exact CLhand
 case d29 => exact q185
 case' d30 => apply ma_2 ?d31 ?d32 ?_ ?_
 case d31 => exact (me_var (pvk 0 q162))
 case d32 => exact (me_var (pvk 1 q166))
 case' d24 => apply mss_cons ?d33 ?d34
 case' d33 => apply ms_set (i := 3) ?d35 ?_ ?d36 ?d37 ?_ ?_
 case d35 => exact sc_law.nd
 case d36 => exact (Or.inl q173.lk)
 case' d37 => apply me_cal ?d38 ?_ ?d39 ?d40 ?_ ?_
 case d38 => exact CLkinds
 case d39 => exact q184
 case' d40 => apply ma_1 ?d41 ?_
 case d41 => exact (me_var (pvk 2 q171))
 case' d34 => apply mss_cons ?d42 ?d43
 case' d42 => apply ms_set (i := 4) ?d44 ?_ ?d45 ?d46 ?_ ?_
 case d44 => exact sc_law.nd
 case d45 => exact (Or.inl q168.lk)
 case' d46 => apply me_cal ?d47 ?_ ?d48 ?d49 ?_ ?_
 case d47 => exact CLway
 case d48 => exact q183
 case' d49 => apply ma_4 ?d50 ?d51 ?d52 me_int ?_ ?_ ?_ ?_
 case d50 => exact (me_var (pvk 2 q171))
 case d51 => exact (me_var (pvk 3 q173))
 case' d52 => apply me_ix (ix_M (hu151 hr)) fm_ix ?d53 ?d54 ?_
 case' d53 => apply me_tup ?_
 case' d53 => apply ma_2 me_int me_int ?_ ?_
 case' d54 => apply me_CTy call_int1 fm_int ?d56 ?d57 ?_ ?d58 ?_ ?_
 case d56 => exact q182
 case d57 => exact T.z_int
 case' d58 => apply ma_1 ?d59 ?_
 case' d59 => apply me_cmp ?d60 fm_eq ?d61 me_int ?_
 case d60 => exact (op_eqK (hu150 hr))
 case' d61 => apply me_cal ?d62 ?_ ?d63 ?d64 ?_ ?_
 case d62 => exact CLtake
 case d63 => exact q181
 case' d64 => apply ma_2 ?d65 me_int ?_ ?_
 case d65 => exact (me_var (pvk 2 q171))
 case' d43 => apply mss_cons ?d66 ?d67
 case' d66 => apply ms_set (i := 5) ?d68 ?_ ?d69 ?d70 ?_ ?_
 case d68 => exact sc_law.nd
 case d69 => exact (Or.inl q169.lk)
 case' d70 => apply me_cal ?d71 ?_ ?d72 ?d73 ?_ ?_
 case d71 => exact C_turned
 case d72 => exact q180
 case' d73 => apply ma_1 ?d74 ?_
 case d74 => exact (me_var (pvk 4 q168))
 case' d67 => apply mss_cons ?d75 ?d76
 case' d75 => apply ms_set (i := 6) ?d77 ?_ ?d78 ?d79 ?_ ?_
 case d77 => exact sc_law.nd
 case d78 => exact (Or.inl q170.lk)
 case' d79 => apply me_cal ?d80 ?_ ?d81 ?d82 ?_ ?_
 case d80 => exact C_turned
 case d81 => exact q180
 case' d82 => apply ma_1 ?d83 ?_
 case d83 => exact (me_var (pvk 5 q169))
 case' d76 => apply mss_cons ?d84 ?d85
 case' d84 => apply ms_if ?d86 ?d87 mss_nil
 case' d86 => apply PW.pt ?_
 case' d86 => apply mw_or ?d89 ?d90
 case' d89 => apply mt_not ?_
 case' d89 => apply mt_val ?d92 ?_
 case' d92 => apply me_cal ?d93 ?_ ?d94 ?d95 ?_ ?_
 case d93 => exact C_is_way
 case d94 => exact q179
 case' d95 => apply ma_1 ?d96 ?_
 case d96 => exact (me_var (pvk 5 q169))
 case' d90 => apply mw_or ?d97 ?d98
 case' d97 => apply mt_not ?_
 case' d97 => apply mt_val ?d100 ?_
 case' d100 => apply me_cal ?d101 ?_ ?d102 ?d103 ?_ ?_
 case d101 => exact C_is_way
 case d102 => exact q179
 case' d103 => apply ma_1 ?d104 ?_
 case d104 => exact (me_var (pvk 6 q170))
 case' d98 => apply mw_or1 ?_
 case' d98 => apply mt_not ?_
 case' d98 => apply mt_val ?d107 ?_
 case' d107 => apply me_cal ?d108 ?_ ?d109 ?d110 ?_ ?_
 case d108 => exact CLright
 case d109 => exact q175
 case' d110 => apply ma_4 ?d111 ?d112 ?d113 ?d114 ?_ ?_ ?_ ?_
 case d111 => exact (me_var (pvk 4 q168))
 case d112 => exact (me_var (pvk 5 q169))
 case d113 => exact (me_var (pvk 6 q170))
 case' d114 => apply me_tup ma_nil
 case' d87 => apply mss_one ?_
 case' d87 => apply ms_ret me_bl
 case' d85 => apply mss_cons ?d116 ?d117
 case' d116 => apply ms_if ?d118 ?d119 mss_nil
 case' d118 => apply PW.pt ?_
 case' d118 => apply mw_or ?d121 ?d122
 case' d121 => apply mt_cmp ?d123 fm_ne ?d124 ?d125 ?_
 case d123 => exact (op_neK (hu151 hr))
 case' d124 => apply me_cal ?d126 ?_ ?d127 ?d128 ?_ ?_
 case d126 => exact C_least_steps
 case d127 => exact q178
 case' d128 => apply ma_1 ?d129 ?_
 case d129 => exact (me_var (pvk 5 q169))
 case' d125 => apply me_cal ?d130 ?_ ?d131 ?d132 ?_ ?_
 case d130 => exact C_least_steps
 case d131 => exact q178
 case' d132 => apply ma_1 ?d133 ?_
 case d133 => exact (me_var (pvk 4 q168))
 case' d122 => apply mw_or1 ?_
 case' d122 => apply mt_cmp ?d135 fm_ne ?d136 ?d137 ?_
 case d135 => exact (op_neK (hu151 hr))
 case' d136 => apply me_cal ?d138 ?_ ?d139 ?d140 ?_ ?_
 case d138 => exact C_is_endless
 case d139 => exact q177
 case' d140 => apply ma_1 ?d141 ?_
 case d141 => exact (me_var (pvk 5 q169))
 case' d137 => apply me_cal ?d142 ?_ ?d143 ?d144 ?_ ?_
 case d142 => exact C_is_endless
 case d143 => exact q177
 case' d144 => apply ma_1 ?d145 ?_
 case d145 => exact (me_var (pvk 4 q168))
 case' d119 => apply mss_one ?_
 case' d119 => apply ms_ret me_bl
 case' d117 => apply mss_one ?_
 case' d117 => apply ms_for ?_ ?_ ?d148 ?d149 ?d150 ?_
 case' d148 => apply mi_range1 ?d151 ?d152 ?d153 ?_
 case d151 => exact q165.lk
 case d152 => exact T.z_range
 case' d153 => apply ma_1 me_int ?_
 case' d149 => apply mg_name ?_
 case' d149 => apply pg_name (i := 7) ?d155 ?_ ?d156 ?_
 case d155 => exact sc_law.nd
 case d156 => exact (Or.inl q167.lk)
 case' d150 => apply mss_cons ?d157 ?d158
 case' d157 => apply ms_set (i := 8) ?d159 ?_ ?d160 ?d161 ?_ ?_
 case d159 => exact sc_law.nd
 case d160 => exact (Or.inl q172.lk)
 case' d161 => apply me_slice sl_M fm_sl ?d162 mo_none ?d163
 case' d162 => apply me_cal ?d164 ?_ ?d165 ?d166 ?_ ?_
 case d164 => exact CLrow_of
 case d165 => exact q176
 case' d166 => apply ma_3 ?d167 ?d168 ?d169 ?_ ?_ ?_
 case d167 => exact (me_var (pvk 2 q171))
 case d168 => exact (me_var (pvk 4 q168))
 case d169 => exact (me_var (pvk 3 q173))
 case' d163 => apply mo_some me_int
 case' d158 => apply mss_cons ?d170 ?d171
 case' d170 => apply ms_if ?d172 ?d173 mss_nil
 case' d172 => apply mt_not ?_
 case' d172 => apply mt_val ?d175 ?_
 case' d175 => apply me_cal ?d176 ?_ ?d177 ?d178 ?_ ?_
 case d176 => exact CLright
 case d177 => exact q175
 case' d178 => apply ma_4 ?d179 ?d180 ?d181 ?d182 ?_ ?_ ?_ ?_
 case d179 => exact (me_var (pvk 4 q168))
 case d180 => exact (me_var (pvk 5 q169))
 case d181 => exact (me_var (pvk 6 q170))
 case d182 => exact (me_var (pvk 8 q172))
 case' d173 => apply mss_one ?_
 case' d173 => apply ms_ret me_bl
 case' d171 => apply mss_one ?_
 case' d171 => apply ms_if ?d185 ?d186 mss_nil
 case' d185 => apply mt_not ?_
 case' d185 => apply mt_val ?d188 ?_
 case' d188 => apply me_cal ?d189 ?_ ?d190 ?d191 ?_ ?_
 case d189 => exact CLright
 case d190 => exact q175
 case' d191 => apply ma_4 ?d192 ?d193 ?d194 ?d195 ?_ ?_ ?_ ?_
 case d192 => exact (me_var (pvk 4 q168))
 case d193 => exact (me_var (pvk 5 q169))
 case d194 => exact (me_var (pvk 6 q170))
 case' d195 => apply me_slice sl_M fm_sl ?d196 mo_none ?d197
 case' d196 => apply me_cal ?d198 ?_ ?d199 ?d200 ?_ ?_
 case d198 => exact CLchanged
 case d199 => exact q174
 case' d200 => apply ma_3 ?d201 ?d202 ?d203 ?_ ?_ ?_
 case d201 => exact (me_var (pvk 2 q171))
 case d202 => exact (me_var (pvk 8 q172))
 case d203 => exact (me_var (pvk 3 q173))
 case' d197 => apply mo_some me_int
 case' d186 => apply mss_one ?_
 case' d186 => apply ms_ret me_bl
 case' d2 => apply mss_one ?_
 case' d2 => apply ms_ret me_bl
 all_goals (try walk_at "late")
end
end K17
set_option maxHeartbeats 4000000
namespace K17
open PySem L2
local macro_rules | `(tactic| walk_at "e") => `(tactic| (with_reducible first
  | refine e_seq ?_ | refine e_sqN ?_ | refine e_sqR ?_ | refine e_sqB ?_ | refine e_sqC ?_ | refine e_lqN ?_ | refine e_lqC ?_ | refine e_lqB ?_ | refine e_lqR ?_ | refine e_fqR ?_ | refine e_fqN ?_ | refine e_sif ?_ | refine e_asg ?_ | refine e_nm ?_ | refine e_ret ?_ | refine e_retN ?_ | refine e_drop ?_ | refine e_next ?_ | refine e_brk ?_ | refine e_cont ?_
  | refine e_c ?_ | refine e_op ?_ | refine e_un ?_ | refine e_cb ?_ | refine e_call ?_ | refine e_nil ?_ | refine e_cons ?_ | refine e_tV ?_ | refine e_eb ?_ | refine e_tAnd ?_ | refine e_tOr ?_ | refine e_tNot ?_ | refine e_and ?_ | refine e_or ?_ | refine e_not ?_ | refine e_ifE ?_ | refine e_chain ?_ | refine e_tTrue ?_
  | refine ite_t ?_ | refine ite_f ?_ | refine e_oNo ?_ | refine e_oSome ?_ | refine e_sl ?_ | refine e_comp ?_ | refine e_for ?_ | refine e_body ?_ | refine e_gnil ?_ | refine e_gcons ?_
  | (refine e_gtp ?h1 ?_; (case h1 => with_unfolding_all rfl))
  | (refine' e_var ?hv ?_; (case hv => with_unfolding_all rfl))
  | refine ite_nT ?_ | refine ite_nF ?_ | refine p_eqTT ?_ | refine p_eqTF ?_ | refine p_eqFT ?_ | refine p_eqFF ?_ | refine p_neTT ?_ | refine p_neTF ?_ | refine p_neFT ?_ | refine p_neFF ?_ | refine p_isTT ?_ | refine p_isTF ?_ | refine p_isFT ?_ | refine p_isFF ?_ | refine p_isNotTT ?_ | refine p_isNotTF ?_ | refine p_isNotFT ?_ | refine p_isNotFF ?_
  | refine p_addI ?_ | refine p_subI ?_ | refine p_ltI ?_ | refine p_leI ?_ | refine p_gtI ?_ | refine p_geI ?_ | refine p_ltS ?_ | refine p_eqI ?_ | refine p_neI ?_ | refine p_eqS ?_ | refine p_neS ?_ | refine p_eqB ?_ | refine p_neB ?_ | refine p_isN ?_ | refine p_isNotN ?_ | refine p_isB ?_ | refine p_isNotB ?_ | refine p_neg ?_ | refine p_abs ?_ | refine p_intI ?_ | refine p_intB ?_ | refine p_min ?_ | refine p_max ?_
  | refine p_lenL ?_ | refine p_lenT ?_ | refine p_lenC ?_ | refine p_slL ?_ | refine p_slC ?_ | refine p_slT ?_
  | (refine p_ixL ?h1 ?_; (case h1 => with_unfolding_all rfl))
  | (refine p_ixT ?h1 ?_; (case h1 => with_unfolding_all rfl))
  | (refine p_mulI ?h1 ?_; (case h1 => omega))
  | (refine p_mod ?h1 ?_; (case h1 => omega))
  | (refine p_div ?h1 ?_; (case h1 => omega))
  | (refine p_pow ?h1 ?_; (case h1 => decide))
  | refine pi_non_str ?_ | refine pi_non_int ?_ | refine pi_non_bool ?_ | refine pi_non_tuple ?_ | refine pi_non_list ?_ | refine pi_bl_str ?_ | refine pi_bl_int ?_ | refine pi_bl_bool ?_ | refine pi_bl_tuple ?_ | refine pi_bl_list ?_ | refine pi_int_str ?_ | refine pi_int_int ?_ | refine pi_int_bool ?_ | refine pi_int_tuple ?_ | refine pi_int_list ?_ | refine pi_str_str ?_ | refine pi_str_int ?_ | refine pi_str_bool ?_ | refine pi_str_tuple ?_ | refine pi_str_list ?_ | refine pi_tup_str ?_ | refine pi_tup_int ?_ | refine pi_tup_bool ?_ | refine pi_tup_tuple ?_ | refine pi_tup_list ?_ | refine pi_lst_str ?_ | refine pi_lst_int ?_ | refine pi_lst_bool ?_ | refine pi_lst_tuple ?_ | refine pi_lst_list ?_ | refine pi_scr_str ?_ | refine pi_scr_int ?_ | refine pi_scr_bool ?_ | refine pi_scr_tuple ?_ | refine pi_scr_list ?_ | refine pi_dct_str ?_ | refine pi_dct_int ?_ | refine pi_dct_bool ?_ | refine pi_dct_tuple ?_ | refine pi_dct_list ?_
  | (refine e_tup ⟨?h1, ?_⟩; (case h1 => decide))
  | refine e_tup ?_ | refine e_lst ?_ | refine e_lstH ?_))
local macro_rules | `(tactic| walk_at "es") => `(tactic| repeat (walk_at "e"))
local macro_rules | `(tactic| walk_at "w") => `(tactic| repeat (first | (with_reducible refine p_t0 ?_) | (with_reducible refine p_t1 ?_) | (with_reducible refine p_t2 ?_) | (with_reducible refine p_t3 ?_) | walk_at "e" | (with_reducible refine len_ok (by simp) ?_)))
local macro_rules | `(tactic| walk_at "x") => `(tactic| first | (with_reducible refine p_t0 ?_) | (with_reducible refine p_t1 ?_) | (with_reducible refine p_t2 ?_) | (with_reducible refine p_t3 ?_) | walk_at "e" | (with_reducible refine len_ok (by simp) ?_))
inductive Wy where
  | emp
  | step (k : Option Str) (t : Str)
  | again (w : Wy)
  | many (w : Wy) (lo hi : Nat)
  | thn (a b : Wy)
  | alt (a b : Wy)
def oM : Option Str → M
  | none => .non
  | some z => .str z
def wM : Wy → M
  | .emp => .tup [.str "empty"]
  | .step k t => .tup [.str "step", oM k, .str t]
  | .again w => .tup [.str "again", wM w]
  | .many w lo hi => .tup [.str "many", wM w, .int lo, .int hi]
  | .thn a b => .tup [.str "then", wM a, wM b]
  | .alt a b => .tup [.str "or", wM a, wM b]
def deep : Wy → Nat
  | .emp => 1
  | .step _ _ => 1
  | .again w => deep w + 1
  | .many w _ _ => deep w + 1
  | .thn a b => max (deep a) (deep b) + 1
  | .alt a b => max (deep a) (deep b) + 1
abbrev Rw := List (Str × Str)
def pM (p : Str × Str) : M := .tup [.str p.1, .str p.2]
def rM (row : Rw) : List M := row.map pM
def okS (k : Option Str) (t : Str) (p : Str × Str) : Bool := (match k with | none => true | some y => p.1 == y) && [("either" : Str), p.2].any (· == t)
inductive Star (R : Int → Int → Prop) : Int → Int → Prop
  | refl (i : Int) : Star R i i
  | tail {i m j : Int} : Star R i m → R m j → Star R i j
def Pow (R : Int → Int → Prop) : Nat → Int → Int → Prop
  | 0, i, j => i = j
  | n + 1, i, j => ∃ m, Pow R n i m ∧ R m j
def Rel (row : Rw) : Wy → Int → Int → Prop
  | .emp => fun i j => i = j
  | .step k t => fun i j => ∃ p, 0 ≤ i ∧ row[i.toNat]? = some p ∧ okS k t p = true ∧ j = i + 1
  | .again w => Star (Rel row w)
  | .many w lo hi => fun i j => ∃ n, lo ≤ n ∧ n ≤ hi ∧ Pow (Rel row w) n i j
  | .thn a b => fun i j => ∃ m, Rel row a i m ∧ Rel row b m j
  | .alt a b => fun i j => Rel row a i j ∨ Rel row b i j
def Rg (row : Rw) (ns : List Int) : Prop := ns.length ≤ 64 ∧ ∀ k ∈ ns, 0 ≤ k ∧ k ≤ row.length
theorem Rg.small {row : Rw} {ns : List Int} (h : Rg row ns) (hl : row.length ≤ 40) : ∀ k ∈ ns, 0 ≤ k ∧ k < 50 := fun k hk => by have := h.2 k hk; omega
def EOk (f : FF) (row : Rw) (w : Wy) : Prop := ∀ (h : HpM) (x : M) (ns : List Int) (R : M → HpM → Prop), (x = .tup (rM row) ∨ x = .lst (rM row)) → row.length ≤ 40 → Rg row ns →
  (∀ ks, Rg row ks → (∀ k, k ∈ ks ↔ ∃ s ∈ ns, Rel row w s k) → R (.lst (ks.map M.int)) h) → Ens (f [wM w, x, .lst (ns.map M.int)] h) R
theorem ite_lf {A B : Prop} {c : Bool} (h : c = false) (q : B) : if c = true then A else B := by rw [h]; exact q
theorem ite_lt {A B : Prop} {c : Bool} (h : c = true) (q : A) : if c = true then A else B := by rw [h]; exact q
section
variable {h : HpM} {R : M → Prop}
theorem any_ints {b : Int} : ∀ (bs : List Int), (bs.map D.int).any (fun e => deq e (.int b)) = bs.any (· == b)
  | [] => rfl
  | c :: bs => by rw [List.map_cons, List.any_cons, List.any_cons, any_ints bs]; simp [deq]
theorem toDs_ints : ∀ (bs : List Int), toDs h (bs.map M.int) = some (bs.map D.int)
  | [] => rfl
  | b :: bs => by
    show (toDB (lookD h 20) (M.int b)).bind (fun d => (toDBs (lookD h 20) (bs.map M.int)).map (d :: ·)) = _
    rw [show toDBs (lookD h 20) (bs.map M.int) = some (bs.map D.int) from toDs_ints bs]; rfl
theorem deeps_ints : ∀ (bs : List Int), D.deeps (bs.map D.int) = 0
  | [] => rfl
  | b :: bs => by rw [List.map_cons, D.deeps, deeps_ints bs]; rfl
theorem anyD_ints {b : Int} {bs : List Int} {f : Bool → M} : anyD (.int b) (bs.map M.int) h f = some (f (bs.any (· == b))) := by
  unfold anyD
  rw [toDs_ints, Option.bind_some]
  show (some (D.int b)).bind _ = _
  rw [Option.bind_some, if_pos (by rw [deeps_ints]; decide), any_ints]
theorem any_mem {b : Int} {bs : List Int} : bs.any (· == b) = decide (b ∈ bs) := by
  rw [Bool.eq_iff_iff, List.any_eq_true, decide_eq_true_eq]
  exact ⟨fun ⟨x, hx, e⟩ => by rw [← (beq_iff_eq.1 e)]; exact hx, fun hb => ⟨b, hb, beq_iff_eq.2 rfl⟩⟩
theorem p_inI {b : Int} {bs : List Int} (q : R (.bl (decide (b ∈ bs)))) : Enp (opIn (.int b) (.lst (bs.map M.int)) h) R := ⟨_, anyD_ints (f := fun b => .bl b), by rw [any_mem]; exact q⟩
theorem p_notInI {b : Int} {bs : List Int} (q : R (.bl (!decide (b ∈ bs)))) : Enp (opNotIn (.int b) (.lst (bs.map M.int)) h) R := ⟨.bl (!bs.any (· == b)), anyD_ints (f := fun b => .bl (!b)), by rw [any_mem]; exact q⟩
theorem p_inN {k : Option Str} {z : Str} (q : R (.bl (match k with | none => true | some y => z == y))) : Enp (opIn (oM k) (.tup [.non, .str z]) h) R := by
  cases k with
  | none => exact ⟨_, rfl, q⟩
  | some y => exact ⟨.bl (z == y), by show some (M.bl ((deq .non (.str y)) || ((z == y) || false))) = _; simp [deq], q⟩
end
theorem anyD_strs {h : HpM} {b : Str} {bs : List Str} {f : Bool → M} : anyD (.str b) (bs.map M.str) h f = some (f (bs.any (· == b))) := by
  unfold anyD
  rw [toDs_strs, Option.bind_some]
  show (some (D.str b)).bind _ = _
  rw [Option.bind_some, if_pos (by rw [deeps_strs]; decide)]
  congr 2
  induction bs with
  | nil => rfl
  | cons c bs ih => rw [List.map_cons, List.any_cons, List.any_cons, ih]; simp [deq]
theorem p_inS {h : HpM} {R : M → Prop} {b : Str} {ss : List Str} (q : R (.bl (ss.any (· == b)))) : Enp (opIn (.str b) (.tup (ss.map M.str)) h) R := ⟨_, anyD_strs (f := fun b => .bl b), q⟩
theorem merged_ok {h : HpM} {a b : List Int} {R : M → HpM → Prop} (ha : ∀ k ∈ a, 0 ≤ k ∧ k < 50) (hb : ∀ k ∈ b, 0 ≤ k ∧ k < 50) (k : R (.lst ((L2.upTo (a ++ b)).map M.int)) h) : Ens (m_merged [.lst (a.map M.int), .lst (b.map M.int)] h) R := by
  refine e_fun rfl ?_
  unfold b_merged
  refine e_ret ?_
  refine e_setU ?_
  refine e_var rfl ⟨a, setM_lst ha, ?_⟩
  refine e_var rfl ⟨b, setM_lst hb, ?_⟩
  exact k
theorem both_ok {h : HpM} {a b : List Int} {R : M → HpM → Prop} (hl : a.length + b.length ≤ 16777216) (ha : ∀ k ∈ a, 0 ≤ k ∧ k < 50) (hb : ∀ k ∈ b, 0 ≤ k ∧ k < 50) (k : R (.lst ((L2.upTo (a ++ b)).map M.int)) h) : Ens (mLboth [.lst (a.map M.int), .lst (b.map M.int)] h) R := by
  refine e_fun rfl ?_
  unfold bLboth
  refine e_ret ?_
  refine e_set1 ?_
  refine e_op ?_
  refine e_var rfl ?_
  refine e_var rfl ?_
  refine p_addL (by simpa using hl) ?_
  rw [← List.map_append]
  exact ⟨a ++ b, setM_lst fun k hk => (List.mem_append.1 hk).elim (ha k) (hb k), k⟩
theorem step_ok {h : HpM} {k : Option Str} {t : Str} {p : Str × Str} {R : M → HpM → Prop} (q : R (.bl (okS k t p)) h) : Ens (m_is_step_of [wM (.step k t), .str p.1, .str p.2] h) R := by
  show Ens (m_is_step_of [.tup [.str "step", oM k, .str t], .str p.1, .str p.2] h) R
  refine e_fun rfl ?_
  unfold b_is_step_of
  walk_at "w"
  refine p_inN ?_
  walk_at "w"
  unfold okS at q
  refine ite_b (fun h1 => ?_) (fun h1 => ?_)
  · walk_at "w"
    refine p_inS (ss := [("either" : Str), p.2]) ?_
    rw [h1, Bool.true_and] at q
    exact q
  · rw [h1, Bool.false_and] at q
    walk_at "es"
    exact q
theorem lof_ok {h : HpM} {k : Option Str} {t : Str} {p : Str × Str} {R : M → HpM → Prop} (q : R (.bl (okS k t p)) h) : Ens (mLof [wM (.step k t), pM p] h) R := by
  show Ens (mLof [.tup [.str "step", oM k, .str t], .tup [.str p.1, .str p.2]] h) R
  refine e_fun rfl ?_
  unfold bLof
  walk_at "w"
  refine p_inN ?_
  walk_at "w"
  unfold okS at q
  refine ite_b (fun h1 => ?_) (fun h1 => ?_)
  · walk_at "w"
    refine p_inS (ss := [("either" : Str), p.2]) ?_
    rw [h1, Bool.true_and] at q
    exact q
  · rw [h1, Bool.false_and] at q
    walk_at "w"
    exact q
theorem upTo_of {ns : List Int} (hb : ∀ k ∈ ns, 0 ≤ k ∧ k < 50) {k : Int} : k ∈ L2.upTo ns ↔ k ∈ ns := by
  rw [L2.mem_upTo]; exact ⟨fun h => h.2, fun h => ⟨hb k h, h⟩⟩
theorem rm_at {row : Rw} {i : Int} {p : Str × Str} (h0 : 0 ≤ i) (e : row[i.toNat]? = some p) : atI (rM row) i = some (pM p) := by
  have ek : i = ((i.toNat : Nat) : Int) := by omega
  have z : atI (rM row) ((i.toNat : Nat) : Int) = some (pM p) := atI_nat (by unfold rM; rw [List.getElem?_map, e]; rfl)
  rwa [← ek] at z
theorem rm_len {row : Rw} : (rM row).length = row.length := by unfold rM; simp
def stepF (row : Rw) (k : Option Str) (t : Str) (i : Int) : Bool := decide (i < (row.length : Int)) && (match row[i.toNat]? with | some p => okS k t p | none => false)
theorem rel_step {row : Rw} {k : Option Str} {t : Str} {ns : List Int} (hn : Rg row ns) : Rg row ((ns.filter (stepF row k t)).map (· + 1)) ∧ ∀ j, j ∈ (ns.filter (stepF row k t)).map (· + 1) ↔ ∃ s ∈ ns, Rel row (.step k t) s j := by
  constructor
  · refine ⟨by rw [List.length_map]; exact Nat.le_trans (List.length_filter_le _ _) hn.1, fun j hj => ?_⟩
    obtain ⟨i, hi, rfl⟩ := List.mem_map.1 hj
    obtain ⟨h1, h2⟩ := List.mem_filter.1 hi
    have := hn.2 i h1
    unfold stepF at h2
    rw [Bool.and_eq_true, decide_eq_true_eq] at h2
    omega
  · intro j
    rw [List.mem_map]
    constructor
    · rintro ⟨i, hi, rfl⟩
      obtain ⟨h1, h2⟩ := List.mem_filter.1 hi
      refine ⟨i, h1, ?_⟩
      unfold stepF at h2
      rw [Bool.and_eq_true, decide_eq_true_eq] at h2
      obtain ⟨h2, h3⟩ := h2
      cases hp : row[i.toNat]? with
      | none => rw [hp] at h3; cases h3
      | some p => rw [hp] at h3; exact ⟨p, (hn.2 i h1).1, hp, h3, rfl⟩
    · rintro ⟨s, hs, p, h0, hp, ho, rfl⟩
      refine ⟨s, List.mem_filter.2 ⟨hs, ?_⟩, rfl⟩
      have hl := (List.getElem?_eq_some_iff.1 hp).1
      unfold stepF
      rw [hp, Bool.and_eq_true, decide_eq_true_eq]
      exact ⟨by omega, ho⟩
def intF (f : Int → Bool) (x : M) : Bool := match x with | .int i => f i | _ => false
def incM (x : M) : M := match x with | .int i => .int (i + 1) | x => x
theorem filt_ints {ns : List Int} (f : Int → Bool) : ((ns.map M.int).filter (intF f)) = (ns.filter f).map M.int := by
  rw [List.filter_map]; rfl
theorem inc_ints {ns : List Int} : (ns.map M.int).map incM = (ns.map (· + 1)).map M.int := by
  rw [List.map_map, List.map_map]; rfl
theorem Rg.up {row : Rw} {ns : List Int} (h : ∀ k ∈ ns, 0 ≤ k ∧ k ≤ row.length) : Rg row (L2.upTo ns) := ⟨Nat.le_trans (upTo_len ns) (by decide), fun k hk => h k (L2.mem_upTo.1 hk).2⟩
theorem Rg.app {row : Rw} {a b : List Int} (ha : Rg row a) (hb : Rg row b) : ∀ k ∈ a ++ b, 0 ≤ k ∧ k ≤ row.length := fun k hk => (List.mem_append.1 hk).elim (ha.2 k) (hb.2 k)
theorem up_app {row : Rw} {a b : List Int} (ha : Rg row a) (hb : Rg row b) (hl : row.length ≤ 40) {k : Int} : k ∈ L2.upTo (a ++ b) ↔ k ∈ a ∨ k ∈ b := by
  rw [upTo_of fun k hk => by have := Rg.app ha hb k hk; omega, List.mem_append]
theorem Rg.filt {row : Rw} {a : List Int} (ha : Rg row a) (f : Int → Bool) : Rg row (a.filter f) := ⟨Nat.le_trans (List.length_filter_le _ _) ha.1, fun k hk => ha.2 k (List.mem_filter.1 hk).1⟩
theorem e_whileN {c : FT} {bd : FS} {S : Out → HpM → Prop} (I : Nat → EnvM → HpM → Prop) (hs : ∀ n ρ h, I n ρ h → Ens (c ρ h) fun t h1 => if t = true then Ens (bd ρ h1) (LQ (fun ρ' h' => ∃ m, m < n ∧ I m ρ' h') S) else S (.nx ρ) h1) : ∀ {N n : Nat} {ρ : EnvM} {h : HpM}, n < N → I n ρ h → Ens (mWhile c bd N ρ h) S
  | 0, n, ρ, h, hN, _ => by omega
  | N + 1, n, ρ, h, hN, hI => by
    unfold mWhile
    refine .bnd ((hs n ρ h hI).mono fun t h1 q => ?_)
    cases t with
    | false => exact .ret q
    | true =>
      refine .bnd (q.mono fun o h2 q => ?_)
      cases o with
      | nx ρ' => obtain ⟨m, hm, q⟩ := q; exact e_whileN I hs (by omega) q
      | ct ρ' => obtain ⟨m, hm, q⟩ := q; exact e_whileN I hs (by omega) q
      | bk ρ' => exact .ret q
      | rt d => exact .ret q
def cnt (a : List Int) : Nat := (ST.smalls.filter fun k => !decide (k ∈ a)).length
theorem cnt_le (a : List Int) : cnt a ≤ 50 := Nat.le_trans (List.length_filter_le _ _) (by decide)
theorem cnt_lt {a b : List Int} (h : ∀ k ∈ a, k ∈ b) {k : Int} (h0 : 0 ≤ k ∧ k < 50) (hb : k ∈ b) (ha : k ∉ a) : cnt b < cnt a := by
  have := ST.sub_len (l := k :: ST.smalls.filter fun k => !decide (k ∈ b)) (m := ST.smalls.filter fun k => !decide (k ∈ a)) (List.nodup_cons.2 ⟨fun hm => by have := (List.mem_filter.1 hm).2; simp [hb] at this, ST.smalls_nd.filter _⟩) fun x hx => by
    rcases List.mem_cons.1 hx with e | e
    · subst e; exact List.mem_filter.2 ⟨ST.mem_smalls.2 h0, by simp [ha]⟩
    · obtain ⟨e1, e2⟩ := List.mem_filter.1 e
      refine List.mem_filter.2 ⟨e1, ?_⟩
      simp at e2 ⊢
      exact fun z => e2 (h x z)
  unfold cnt
  simp only [List.length_cons] at this
  omega
theorem cnt_eq {a b : List Int} (h : ∀ k, k ∈ a ↔ k ∈ b) : cnt a = cnt b := by
  unfold cnt
  congr 2
  funext k
  simp [h k]
theorem nil_ints {ns : List Int} : ((ns.map M.int).isEmpty) = ns.isEmpty := by cases ns <;> rfl
theorem again_ok {f : FF} {row : Rw} {w : Wy} (hf : EOk f row w) {h : HpM} {x : M} {ns : List Int} {R : M → HpM → Prop} (hx : x = .tup (rM row) ∨ x = .lst (rM row)) (hl : row.length ≤ 40) (hn : Rg row ns)
    (k : ∀ ks, Rg row ks → (∀ k, k ∈ ks ↔ ∃ s ∈ ns, Star (Rel row w) s k) → R (.lst (ks.map M.int)) h) : Ens (m_ends_again f [wM w, x, .lst (ns.map M.int)] h) R := by
  refine e_fun rfl ?_
  unfold b_ends_again
  refine e_seq ?_
  walk_at "e"
  walk_at "e"
  walk_at "e"
  walk_at "e"
  walk_at "e"
  walk_at "e"
  walk_at "e"
  walk_at "e"
  walk_at "e"
  refine e_seq ?_
  refine e_whileN (fun n ρ h' => ∃ found fresh : List Int, ρ = [some (wM w), some x, some (.lst (ns.map M.int)), some (.lst (found.map M.int)), some (.lst (fresh.map M.int))] ∧ h' = h ∧ Rg row found ∧ Rg row fresh ∧ (∀ k ∈ ns, k ∈ found) ∧
      (∀ k ∈ found, ∃ s ∈ ns, Star (Rel row w) s k) ∧ (∀ k ∈ fresh, k ∈ found) ∧ (∀ k ∈ found, k ∉ fresh → ∀ j, Rel row w k j → j ∈ found) ∧ n = 2 * cnt found + (if fresh.isEmpty = true then 0 else 1)) ?_ (n := 2 * cnt ns + (if ns.isEmpty = true then 0 else 1)) (by have := cnt_le ns; split <;> omega)
    ⟨ns, ns, rfl, rfl, hn, hn, fun _ h => h, fun k hk => ⟨k, hk, .refl k⟩, fun _ h => h, fun k h1 h2 => absurd h1 h2, rfl⟩
  rintro n ρ h' ⟨found, fresh, rfl, rfl, hfo, hfr, i1, i2, i3, i4, rfl⟩
  refine e_truL ?_
  refine e_var rfl ⟨_, rfl, ?_⟩
  rw [nil_ints]
  cases hne : fresh.isEmpty with
  | true =>
    refine ite_nT ?_
    have hnil : fresh = [] := List.isEmpty_iff.1 hne
    walk_at "es"
    refine k found hfo fun j => ⟨i2 j, ?_⟩
    rintro ⟨s, hs, st⟩
    induction st with
    | refl => exact i1 _ hs
    | tail _ hr ih => exact i4 _ ih (by rw [hnil]; simp) _ hr
  | false =>
    refine ite_nF ?_
    refine e_seq ?_
    refine e_asg ?_
    refine e_comp ?_
    refine e_iL ?_
    refine e_call ?_
    refine e_cons ?_
    refine e_var rfl ?_
    refine e_cons ?_
    refine e_var rfl ?_
    refine e_cons ?_
    refine e_var rfl ?_
    refine e_nil ?_
    refine hf h' x fresh _ hx hl hfr fun ks hk hm => ?_
    refine ⟨_, rfl, ?_⟩
    refine ⟨by rw [List.length_map]; have := hk.1; omega, ?_⟩
    refine e_filt (intF fun i => !decide (i ∈ found)) id (fun y hy => ?_) ?_
    · obtain ⟨i, hi, rfl⟩ := List.mem_map.1 hy
      refine e_nm ⟨rfl, ?_⟩
      refine e_tV ?_
      refine e_op ?_
      refine e_var rfl ?_
      refine e_var rfl ?_
      refine p_notInI ?_
      refine e_eb ⟨rfl, rfl, fun _ => ?_⟩
      exact e_var rfl ⟨rfl, rfl⟩
    · rw [filt_ints, List.map_id]
      have hnew : Rg row (ks.filter fun i => !decide (i ∈ found)) := hk.filt _
      have hmem : ∀ j, j ∈ ks.filter (fun i => !decide (i ∈ found)) ↔ (∃ s ∈ fresh, Rel row w s j) ∧ j ∉ found := fun j => by rw [List.mem_filter, hm j]; simp
      generalize ks.filter (fun i => !decide (i ∈ found)) = nw at hnew hmem ⊢
      walk_at "e"
      walk_at "e"
      refine e_asg ?_
      refine e_call ?_
      refine e_cons ?_
      refine e_var rfl ?_
      refine e_cons ?_
      refine e_var rfl ?_
      refine e_nil ?_
      refine merged_ok (hfo.small hl) (hnew.small hl) ?_
      refine e_nm ?_
      have hup : ∀ j, j ∈ L2.upTo (found ++ nw) ↔ j ∈ found ∨ j ∈ nw := fun j => up_app hfo hnew hl
      refine ⟨2 * cnt (L2.upTo (found ++ nw)) + (if nw.isEmpty = true then 0 else 1), ?_, L2.upTo (found ++ nw), nw, rfl, rfl, Rg.up (Rg.app hfo hnew), hnew, fun j hj => (hup j).2 (.inl (i1 j hj)), fun j hj => ?_, fun j hj => (hup j).2 (.inr hj), fun j hj hj2 l hr => ?_, rfl⟩
      · have hsub : ∀ j ∈ found, j ∈ L2.upTo (found ++ nw) := fun j hj => (hup j).2 (.inl hj)
        cases nw with
        | nil =>
          have : cnt (L2.upTo (found ++ [])) = cnt found := cnt_eq fun j => by rw [hup j]; simp
          rw [this]; simp
        | cons j nw =>
          have h1 := (hmem j).1 (by simp)
          have := cnt_lt hsub (hnew.small hl j (by simp)) ((hup j).2 (.inr (by simp))) h1.2
          simp; omega
      · rcases (hup j).1 hj with g | g
        · exact i2 j g
        · obtain ⟨⟨s, hs, hr⟩, _⟩ := (hmem j).1 g
          obtain ⟨s0, h0, st⟩ := i2 s (i3 s hs)
          exact ⟨s0, h0, .tail st hr⟩
      · rw [hup l]
        rcases (hup j).1 hj with g | g
        · by_cases hfrj : j ∈ fresh
          · by_cases hlf : l ∈ found
            · exact .inl hlf
            · exact .inr ((hmem l).2 ⟨⟨j, hfrj, hr⟩, hlf⟩)
          · exact .inl (i4 j g hfrj l hr)
        · exact absurd g hj2
theorem many_ok {f : FF} {row : Rw} {w : Wy} {lo hi : Nat} (hf : EOk f row w) {h : HpM} {x : M} {ns : List Int} {R : M → HpM → Prop} (hhi : hi ≤ 1000) (hx : x = .tup (rM row) ∨ x = .lst (rM row)) (hl : row.length ≤ 40) (hn : Rg row ns)
    (k : ∀ ks, Rg row ks → (∀ k, k ∈ ks ↔ ∃ s ∈ ns, Rel row (.many w lo hi) s k) → R (.lst (ks.map M.int)) h) : Ens (m_ends_many f [wM (.many w lo hi), x, .lst (ns.map M.int)] h) R := by
  show Ens (m_ends_many f [.tup [.str "many", wM w, .int lo, .int hi], x, .lst (ns.map M.int)] h) R
  refine e_fun rfl ?_
  unfold b_ends_many
  walk_at "w"
  refine e_iR1 ?_
  walk_at "w"
  refine ⟨(hi : Int) + 1, rfl, by omega, ?_⟩
  refine e_over (fun i ρ h' => ∃ found here : List Int, ∃ v, ρ = [some (.tup [.str "many", wM w, .int lo, .int hi]), some x, some (.lst (ns.map M.int)), some (.lst (found.map M.int)), some (.lst (here.map M.int)), v] ∧ h' = h ∧ Rg row found ∧ Rg row here ∧
      (∀ k, k ∈ here ↔ ∃ s ∈ ns, Pow (Rel row w) i s k) ∧ (∀ k, k ∈ found ↔ ∃ s ∈ ns, ∃ n, lo ≤ n ∧ n < i ∧ Pow (Rel row w) n s k)) ?_ ?_ ?_
  · refine ⟨[], ns, _, rfl, rfl, ⟨by simp, fun k hk => by simp at hk⟩, hn, fun k => ?_, fun k => ?_⟩
    · exact ⟨fun hk => ⟨k, hk, rfl⟩, fun ⟨s, hs, e⟩ => by cases e; exact hs⟩
    · exact ⟨fun hk => by simp at hk, fun ⟨_, _, n, _, hn, _⟩ => by omega⟩
  · rintro i y ρ h' hy ⟨found, here, v, rfl, rfl, hfo, hhe, q1, q2⟩
    have ey : y = .int (i : Int) := by
      rw [List.getElem?_map] at hy
      obtain ⟨j, hj, rfl⟩ := Option.map_eq_some_iff.mp hy
      obtain ⟨hlt, ej⟩ := List.getElem?_eq_some_iff.1 hj
      rw [List.getElem_range] at ej
      rw [ej]
    subst ey
    refine e_body ?_
    refine e_nm ?_
    refine e_seq ?_
    have tail : ∀ found', Rg row found' → (∀ k, k ∈ found' ↔ ∃ s ∈ ns, ∃ n, lo ≤ n ∧ n < i + 1 ∧ Pow (Rel row w) n s k) → Ens (sAsg (mCall f (mCons (mOp ixM (mVar 0) (mC (.int 1))) (mCons (mVar 1) (mCons (mVar 4) mNil)))) (gNm 4)
        [some (.tup [.str "many", wM w, .int lo, .int hi]), some x, some (.lst (ns.map M.int)), some (.lst (found'.map M.int)), some (.lst (here.map M.int)), some (.int (i : Int))] h')
        (LQ (fun ρ h'' => ∃ found here : List Int, ∃ v, ρ = [some (.tup [.str "many", wM w, .int lo, .int hi]), some x, some (.lst (ns.map M.int)), some (.lst (found.map M.int)), some (.lst (here.map M.int)), v] ∧ h'' = h' ∧ Rg row found ∧ Rg row here ∧
          (∀ k, k ∈ here ↔ ∃ s ∈ ns, Pow (Rel row w) (i + 1) s k) ∧ (∀ k, k ∈ found ↔ ∃ s ∈ ns, ∃ n, lo ≤ n ∧ n < i + 1 ∧ Pow (Rel row w) n s k)) (SQ (sRet (mVar 3)) (FQ R))) := fun found' g1 g2 => by
      walk_at "w"
      refine hf h' x here _ hx hl hhe fun ks hk hm => ?_
      walk_at "w"
      refine ⟨found', ks, _, rfl, rfl, g1, hk, fun j => ?_, g2⟩
      rw [hm j]
      constructor
      · rintro ⟨s, hs, hr⟩
        obtain ⟨s0, h0, hp⟩ := (q1 s).1 hs
        exact ⟨s0, h0, s, hp, hr⟩
      · rintro ⟨s0, h0, s, hp, hr⟩
        exact ⟨s, (q1 s).2 ⟨s0, h0, hp⟩, hr⟩
    walk_at "w"
    refine ite_b (fun hc => ?_) (fun hc => ?_)
    · have hlo : lo ≤ i := by have := of_decide_eq_true hc; omega
      walk_at "w"
      refine merged_ok (hfo.small hl) (hhe.small hl) ?_
      walk_at "e"
      walk_at "e"
      refine tail _ (Rg.up (Rg.app hfo hhe)) fun j => ?_
      rw [up_app hfo hhe hl, q1 j, q2 j]
      constructor
      · rintro (⟨s, hs, n, a, b, c⟩ | ⟨s, hs, c⟩)
        · exact ⟨s, hs, n, a, by omega, c⟩
        · exact ⟨s, hs, i, hlo, by omega, c⟩
      · rintro ⟨s, hs, n, a, b, c⟩
        by_cases e : n = i
        · subst e; exact .inr ⟨s, hs, c⟩
        · exact .inl ⟨s, hs, n, a, by omega, c⟩
    · have hlo : ¬ lo ≤ i := by have := of_decide_eq_false hc; omega
      walk_at "e"
      walk_at "e"
      refine tail found hfo fun j => ?_
      rw [q2 j]
      exact ⟨fun ⟨s, hs, n, a, b, c⟩ => ⟨s, hs, n, a, by omega, c⟩, fun ⟨s, hs, n, a, b, c⟩ => by omega⟩
  · rintro ρ h' ⟨found, here, v, rfl, rfl, hfo, hhe, q1, q2⟩
    have hlen : ((List.range ((hi : Int) + 1).toNat).map fun (i : Nat) => M.int (i : Int)).length = hi + 1 := by simp
    rw [hlen] at q2
    walk_at "w"
    refine k found hfo fun j => ?_
    rw [q2 j]
    exact ⟨fun ⟨s, hs, n, a, b, c⟩ => ⟨s, hs, n, a, by omega, c⟩, fun ⟨s, hs, n, a, b, c⟩ => ⟨s, hs, n, a, by omega, c⟩⟩
def kns : List Str := ["knows", "a", "aa", "zebra", "empty", "quartzes", "again", "likes"]
def tnk : List Str := ["forth", "back", "either"]
def WOk : Wy → Prop
  | .emp => True
  | .step k t => (∀ z, k = some z → z ∈ kns) ∧ t ∈ tnk
  | .again w => WOk w
  | .many w lo hi => WOk w ∧ lo ≤ hi ∧ hi ≤ 6
  | .thn a b => WOk a ∧ WOk b
  | .alt a b => WOk a ∧ WOk b
local macro_rules | `(tactic| walk_at "v") => `(tactic| repeat (first | walk_at "x" | (with_reducible refine ite_lf (by decide +kernel) ?_) | (with_reducible refine ite_lt (by decide +kernel) ?_)))
theorem rel_thn {row : Rw} {a b : Wy} {ns ms ks : List Int} (h1 : ∀ k, k ∈ ms ↔ ∃ s ∈ ns, Rel row a s k) (h2 : ∀ k, k ∈ ks ↔ ∃ s ∈ ms, Rel row b s k) (k : Int) : k ∈ ks ↔ ∃ s ∈ ns, Rel row (.thn a b) s k := by
  rw [h2 k]
  constructor
  · rintro ⟨m, hm, hb⟩
    obtain ⟨s, hs, ha⟩ := (h1 m).1 hm
    exact ⟨s, hs, m, ha, hb⟩
  · rintro ⟨s, hs, m, ha, hb⟩
    exact ⟨m, (h1 m).2 ⟨s, hs, ha⟩, hb⟩
theorem rel_alt {row : Rw} {a b : Wy} {ns ms ks : List Int} (h1 : ∀ k, k ∈ ms ↔ ∃ s ∈ ns, Rel row a s k) (h2 : ∀ k, k ∈ ks ↔ ∃ s ∈ ns, Rel row b s k) (k : Int) : k ∈ ms ∨ k ∈ ks ↔ ∃ s ∈ ns, Rel row (.alt a b) s k := by
  rw [h1 k, h2 k]
  constructor
  · rintro (⟨s, hs, ha⟩ | ⟨s, hs, ha⟩)
    · exact ⟨s, hs, .inl ha⟩
    · exact ⟨s, hs, .inr ha⟩
  · rintro ⟨s, hs, ha | ha⟩
    · exact .inl ⟨s, hs, ha⟩
    · exact .inr ⟨s, hs, ha⟩
theorem ends_ok {row : Rw} : ∀ (n : Nat) (w : Wy), deep w ≤ n → WOk w → EOk (m_ends n) row w
  | 0, w, hd, _ => by exfalso; cases w <;> simp [deep] at hd
  | n + 1, w, hd, hw => by
    intro h x ns R hx hl hn k
    have ih := fun w' (h' : deep w' ≤ n) (h2 : WOk w') => ends_ok (row := row) n w' h' h2
    show Ens (mFun 3 1 (b_ends (m_ends n)) _ h) R
    cases w with
    | emp =>
      show Ens (mFun 3 1 (b_ends (m_ends n)) [.tup [.str "empty"], x, .lst (ns.map M.int)] h) R
      refine e_fun rfl ?_
      unfold b_ends
      walk_at "v"
      exact k ns hn fun j => ⟨fun hj => ⟨j, hj, rfl⟩, fun ⟨s, hs, e⟩ => by cases e; exact hs⟩
    | step kd t =>
      show Ens (mFun 3 1 (b_ends (m_ends n)) [.tup [.str "step", oM kd, .str t], x, .lst (ns.map M.int)] h) R
      refine e_fun rfl ?_
      unfold b_ends
      walk_at "v"
      refine e_iL ?_
      walk_at "v"
      refine ⟨_, rfl, by rw [List.length_map]; have := hn.1; omega, ?_⟩
      obtain ⟨g1, g2⟩ := rel_step (k := kd) (t := t) hn
      refine e_filt (intF (stepF row kd t)) incM (fun y hy => ?_) ?_
      · obtain ⟨i, hi, rfl⟩ := List.mem_map.1 hy
        have hr := hn.2 i hi
        refine e_nm ⟨rfl, ?_⟩
        have key : Ens ((tAndM (tV (mOp opLt (mVar 0) (mCB bLen (mCons (mVar 2) mNil)))) (tV (mCall m_is_step_of (mCons (mVar 1) (mCons (mOp ixM (mOp ixM (mVar 2) (mVar 0)) (mC (.int 0))) (mCons (mOp ixM (mOp ixM (mVar 2) (mVar 0)) (mC (.int 1))) mNil))))))
            [some (.int i), some (wM (.step kd t)), some x] h) fun t' h2 => h2 = h ∧ t' = stepF row kd t i := by
          have lenq : ∀ {R : M → Prop}, R (.int row.length) → Enp (bLen [x] h) R := fun {R} q => by
            rcases hx with rfl | rfl
            · exact p_lenT (by rw [rm_len]; exact q)
            · exact p_lenL (by rw [rm_len]; exact q)
          refine e_tAnd ?_
          refine e_tV ?_
          refine e_op ?_
          refine e_var rfl ?_
          refine e_cb ?_
          refine e_cons ?_
          refine e_var rfl ?_
          refine e_nil ?_
          refine lenq ?_
          refine p_ltI ?_
          refine e_eb ?_
          refine ite_b (fun hc => ?_) (fun hc => ?_)
          · have hlt := of_decide_eq_true hc
            have hnat : i.toNat < row.length := by omega
            have hp : row[i.toNat]? = some row[i.toNat] := List.getElem?_eq_getElem hnat
            have ixq : ∀ {R : M → Prop}, R (pM row[i.toNat]) → Enp (ixM x (.int i) h) R := fun {R} q => by
              rcases hx with rfl | rfl
              · exact p_ixT (rm_at hr.1 hp) q
              · exact p_ixL (rm_at hr.1 hp) q
            refine e_tV ?_
            refine e_call ?_
            refine e_cons ?_
            refine e_var rfl ?_
            refine e_cons ?_
            refine e_op ?_
            refine e_op ?_
            refine e_var rfl ?_
            refine e_var rfl ?_
            refine ixq ?_
            refine e_c ?_
            refine p_t0 ?_
            refine e_cons ?_
            refine e_op ?_
            refine e_op ?_
            refine e_var rfl ?_
            refine e_var rfl ?_
            refine ixq ?_
            refine e_c ?_
            refine p_t1 ?_
            refine e_nil ?_
            refine step_ok ?_
            refine e_eb ⟨rfl, ?_⟩
            unfold stepF
            rw [hc, hp]; rfl
          · refine ⟨rfl, ?_⟩
            unfold stepF
            rw [hc]; rfl
        refine key.mono fun t' h2 ⟨e1, e2⟩ => ⟨e1, e2, fun _ => ?_⟩
        subst e1
        refine e_op ?_
        refine e_var rfl ?_
        refine e_c ?_
        exact p_addI ⟨rfl, rfl⟩
      · rw [filt_ints, inc_ints]
        walk_at "v"
        exact k _ g1 g2
    | again w =>
      have hd' : deep w ≤ n := by simp [deep] at hd; omega
      show Ens (mFun 3 1 (b_ends (m_ends n)) [.tup [.str "again", wM w], x, .lst (ns.map M.int)] h) R
      refine e_fun rfl ?_
      unfold b_ends
      walk_at "v"
      exact again_ok (ih w hd' hw) hx hl hn k
    | many w lo hi =>
      have hd' : deep w ≤ n := by simp [deep] at hd; omega
      show Ens (mFun 3 1 (b_ends (m_ends n)) [.tup [.str "many", wM w, .int lo, .int hi], x, .lst (ns.map M.int)] h) R
      refine e_fun rfl ?_
      unfold b_ends
      walk_at "v"
      exact many_ok (ih w hd' hw.1) (by have := hw.2.2; omega) hx hl hn k
    | thn a b =>
      have hd' : deep a ≤ n ∧ deep b ≤ n := by simp [deep] at hd; omega
      show Ens (mFun 3 1 (b_ends (m_ends n)) [.tup [.str "then", wM a, wM b], x, .lst (ns.map M.int)] h) R
      refine e_fun rfl ?_
      unfold b_ends
      walk_at "v"
      refine ih a hd'.1 hw.1 h x ns _ hx hl hn fun ms hm h1 => ?_
      walk_at "v"
      exact ih b hd'.2 hw.2 h x ms _ hx hl hm fun ks hk h2 => k ks hk (rel_thn h1 h2)
    | alt a b =>
      have hd' : deep a ≤ n ∧ deep b ≤ n := by simp [deep] at hd; omega
      show Ens (mFun 3 1 (b_ends (m_ends n)) [.tup [.str "or", wM a, wM b], x, .lst (ns.map M.int)] h) R
      refine e_fun rfl ?_
      unfold b_ends
      walk_at "v"
      refine ih a hd'.1 hw.1 h x ns _ hx hl hn fun ms hm h1 => ?_
      walk_at "v"
      refine ih b hd'.2 hw.2 h x ns _ hx hl hn fun ks hk h2 => ?_
      walk_at "v"
      exact merged_ok (hm.small hl) (hk.small hl) (k _ (Rg.up (Rg.app hm hk)) fun j => by rw [up_app hm hk hl]; exact rel_alt h1 h2 j)
local macro_rules | `(tactic| walk_at "u") => `(tactic| repeat ((fail_if_success with_reducible refine e_for ?_); first | walk_at "x" | (with_reducible refine ite_lf (by decide +kernel) ?_) | (with_reducible refine ite_lt (by decide +kernel) ?_)))
theorem p_neNil {h : HpM} {ns : List Int} {R : M → Prop} (q : R (.bl (!ns.isEmpty))) : Enp (opNe (.lst (ns.map M.int)) (.lst []) h) R := by
  refine ⟨.bl (!ns.isEmpty), ?_, q⟩
  unfold opNe
  show (((toDs h (ns.map M.int)).map D.lst).bind _) = _
  rw [toDs_ints]
  show (some (D.lst (ns.map D.int))).bind _ = _
  rw [Option.bind_some]
  show (some (D.lst [])).bind _ = _
  rw [Option.bind_some]
  show (if D.deeps (ns.map D.int) + 1 ≤ 150 then _ else _) = _
  rw [deeps_ints, if_pos (by decide)]
  cases ns <;> rfl
theorem bothR {h : HpM} {row : Rw} {a b : List Int} {R : M → HpM → Prop} (hl : row.length ≤ 40) (ha : Rg row a) (hb : Rg row b) (k : R (.lst ((L2.upTo (a ++ b)).map M.int)) h) : Ens (mLboth [.lst (a.map M.int), .lst (b.map M.int)] h) R :=
  both_ok (by have := ha.1; have := hb.1; omega) (ha.small hl) (hb.small hl) k
theorem lagain {f : FF} {row : Rw} {w : Wy} (hf : EOk f row w) {h : HpM} {x : M} {ns : List Int} {S : Out → HpM → Prop} {v0 v3 v6 : Option M} (hx : x = .tup (rM row) ∨ x = .lst (rM row)) (hl : row.length ≤ 40) (hn : Rg row ns)
    (k : ∀ ks ρ, Rg row ks → (∀ k, k ∈ ks ↔ ∃ s ∈ ns, Star (Rel row w) s k) → ρ[4]? = some (some (.lst (ks.map M.int))) → S (.nx ρ) h) :
    Ens (mWhile (tV (mOp opNe (mComp [none, some 4] (iL (mVar 5)) (gNm 0) (tV (mOp opNotIn (mVar 0) (mVar 1))) (mVar 0)) (mLst mNil))) (sSeq (sAsg (mCall mLboth (mCons (mVar 4) (mCons (mVar 5) mNil))) (gNm 4))
      (sAsg (mCall f (mCons (mOp ixM (mVar 0) (mC (.int 1))) (mCons (mVar 1) (mCons (mVar 5) mNil)))) (gNm 5))) 1000000
      [some (.tup [.str "again", wM w]), some x, some (.lst (ns.map M.int)), v3, some (.lst []), some (.lst (ns.map M.int)), v6] h) S := by
  refine e_whileN (fun n ρ h' => ∃ found here : List Int, ρ = [some (.tup [.str "again", wM w]), some x, some (.lst (ns.map M.int)), v3, some (.lst (found.map M.int)), some (.lst (here.map M.int)), v6] ∧ h' = h ∧ Rg row found ∧ Rg row here ∧
      (∀ k ∈ ns, k ∈ found ∨ k ∈ here) ∧ (∀ k, k ∈ found ∨ k ∈ here → ∃ s ∈ ns, Star (Rel row w) s k) ∧ (∀ k ∈ found, ∀ j, Rel row w k j → j ∈ found ∨ j ∈ here) ∧ n = cnt found) ?_ (n := cnt []) (by have := cnt_le []; omega)
    ⟨[], ns, rfl, rfl, ⟨by simp, fun k hk => by simp at hk⟩, hn, fun _ h => .inr h, fun k hk => ⟨k, hk.elim (fun z => by simp at z) id, .refl k⟩, fun k hk => by simp at hk, rfl⟩
  rintro n ρ h' ⟨found, here, rfl, rfl, hfo, hhe, i1, i2, i3, rfl⟩
  refine e_tV ?_
  refine e_op ?_
  refine e_comp ?_
  refine e_iL ?_
  refine e_var rfl ⟨_, rfl, ?_⟩
  refine ⟨by rw [List.length_map]; have := hhe.1; omega, ?_⟩
  refine e_filt (intF fun i => !decide (i ∈ found)) id (fun y hy => ?_) ?_
  · obtain ⟨i, hi, rfl⟩ := List.mem_map.1 hy
    refine e_nm ⟨rfl, ?_⟩
    refine e_tV ?_
    refine e_op ?_
    refine e_var rfl ?_
    refine e_var rfl ?_
    refine p_notInI ?_
    refine e_eb ⟨rfl, rfl, fun _ => ?_⟩
    exact e_var rfl ⟨rfl, rfl⟩
  · rw [filt_ints, List.map_id]
    walk_at "v"
    refine p_neNil ?_
    refine e_eb ?_
    refine ite_b (fun hc => ?_) (fun hc => ?_)
    · have hne : ∃ j, j ∈ here ∧ j ∉ found := by
        cases hq : here.filter (fun i => !decide (i ∈ found)) with
        | nil => rw [hq] at hc; cases hc
        | cons j l =>
          obtain ⟨h1, h2⟩ := List.mem_filter.1 (show j ∈ here.filter (fun i => !decide (i ∈ found)) by rw [hq]; simp)
          exact ⟨j, h1, by simpa using h2⟩
      obtain ⟨j, hj1, hj2⟩ := hne
      have hup : ∀ j, j ∈ L2.upTo (found ++ here) ↔ j ∈ found ∨ j ∈ here := fun j => up_app hfo hhe hl
      have hlt := cnt_lt (fun k hk => (hup k).2 (.inl hk)) (hhe.small hl j hj1) ((hup j).2 (.inr hj1)) hj2
      walk_at "v"
      refine bothR hl hfo hhe ?_
      walk_at "v"
      refine hf h' x here _ hx hl hhe fun ks hk hm => ?_
      walk_at "v"
      refine ⟨_, hlt, L2.upTo (found ++ here), ks, rfl, rfl, Rg.up (Rg.app hfo hhe), hk, fun k hk => .inl ((hup k).2 (i1 k hk)), ?_, ?_, rfl⟩
      · rintro k (g | g)
        · exact i2 k ((hup k).1 g)
        · obtain ⟨s, hs, hr⟩ := (hm k).1 g
          obtain ⟨s0, h0, st⟩ := i2 s (.inr hs)
          exact ⟨s0, h0, .tail st hr⟩
      · intro k hk l hr
        rcases (hup k).1 hk with g | g
        · exact .inl ((hup l).2 (i3 k g l hr))
        · exact .inr ((hm l).2 ⟨k, g, hr⟩)
    · have hall : ∀ j ∈ here, j ∈ found := fun j hj => by
        by_cases e : j ∈ found
        · exact e
        · have : j ∈ here.filter (fun i => !decide (i ∈ found)) := List.mem_filter.2 ⟨hj, by simp [e]⟩
          rw [show here.filter (fun i => !decide (i ∈ found)) = [] by simpa using hc] at this
          cases this
      refine k found _ hfo (fun j => ⟨fun hj => i2 j (.inl hj), ?_⟩) rfl
      rintro ⟨s, hs, st⟩
      induction st with
      | refl => exact (i1 _ hs).elim id (hall _)
      | tail _ hr ih => exact (i3 _ ih _ hr).elim id (hall _)
theorem lmany {f : FF} {row : Rw} {w : Wy} {lo hi : Nat} (hf : EOk f row w) {h : HpM} {x : M} {ns : List Int} {S : Out → HpM → Prop} {v3 v6 : Option M} (hhi : hi ≤ 1000) (hx : x = .tup (rM row) ∨ x = .lst (rM row)) (hl : row.length ≤ 40) (hn : Rg row ns)
    (k : ∀ ks ρ, Rg row ks → (∀ k, k ∈ ks ↔ ∃ s ∈ ns, Rel row (.many w lo hi) s k) → ρ[4]? = some (some (.lst (ks.map M.int))) → S (.nx ρ) h) :
    Ens (sFor (iR1 (mCons (mOp opAdd (mOp ixM (mVar 0) (mC (.int 3))) (mC (.int 1))) mNil)) (gNm 6) (sSeq (sIf (tV (mOp opGe (mVar 6) (mOp ixM (mVar 0) (mC (.int 2))))) (sAsg (mCall mLboth (mCons (mVar 4) (mCons (mVar 5) mNil))) (gNm 4)) sNext)
      (sAsg (mCall f (mCons (mOp ixM (mVar 0) (mC (.int 1))) (mCons (mVar 1) (mCons (mVar 5) mNil)))) (gNm 5)))
      [some (.tup [.str "many", wM w, .int lo, .int hi]), some x, some (.lst (ns.map M.int)), v3, some (.lst []), some (.lst (ns.map M.int)), v6] h) S := by
  walk_at "w"
  refine e_iR1 ?_
  walk_at "w"
  refine ⟨(hi : Int) + 1, rfl, by omega, ?_⟩
  refine e_over (fun i ρ h' => ∃ found here : List Int, ∃ v, ρ = [some (.tup [.str "many", wM w, .int lo, .int hi]), some x, some (.lst (ns.map M.int)), v3, some (.lst (found.map M.int)), some (.lst (here.map M.int)), v] ∧ h' = h ∧ Rg row found ∧ Rg row here ∧
      (∀ k, k ∈ here ↔ ∃ s ∈ ns, Pow (Rel row w) i s k) ∧ (∀ k, k ∈ found ↔ ∃ s ∈ ns, ∃ n, lo ≤ n ∧ n < i ∧ Pow (Rel row w) n s k)) ?_ ?_ ?_
  · refine ⟨[], ns, _, rfl, rfl, ⟨by simp, fun k hk => by simp at hk⟩, hn, fun k => ?_, fun k => ?_⟩
    · exact ⟨fun hk => ⟨k, hk, rfl⟩, fun ⟨s, hs, e⟩ => by cases e; exact hs⟩
    · exact ⟨fun hk => by simp at hk, fun ⟨_, _, n, _, hn, _⟩ => by omega⟩
  · rintro i y ρ h' hy ⟨found, here, v, rfl, rfl, hfo, hhe, q1, q2⟩
    have ey : y = .int (i : Int) := by
      rw [List.getElem?_map] at hy
      obtain ⟨j, hj, rfl⟩ := Option.map_eq_some_iff.mp hy
      obtain ⟨hlt, ej⟩ := List.getElem?_eq_some_iff.1 hj
      rw [List.getElem_range] at ej
      rw [ej]
    subst ey
    refine e_body ?_
    refine e_nm ?_
    refine e_seq ?_
    have tail : ∀ found', Rg row found' → (∀ k, k ∈ found' ↔ ∃ s ∈ ns, ∃ n, lo ≤ n ∧ n < i + 1 ∧ Pow (Rel row w) n s k) → Ens (sAsg (mCall f (mCons (mOp ixM (mVar 0) (mC (.int 1))) (mCons (mVar 1) (mCons (mVar 5) mNil)))) (gNm 5)
        [some (.tup [.str "many", wM w, .int lo, .int hi]), some x, some (.lst (ns.map M.int)), v3, some (.lst (found'.map M.int)), some (.lst (here.map M.int)), some (.int (i : Int))] h')
        (LQ (fun ρ h'' => ∃ found here : List Int, ∃ v, ρ = [some (.tup [.str "many", wM w, .int lo, .int hi]), some x, some (.lst (ns.map M.int)), v3, some (.lst (found.map M.int)), some (.lst (here.map M.int)), v] ∧ h'' = h' ∧ Rg row found ∧ Rg row here ∧
          (∀ k, k ∈ here ↔ ∃ s ∈ ns, Pow (Rel row w) (i + 1) s k) ∧ (∀ k, k ∈ found ↔ ∃ s ∈ ns, ∃ n, lo ≤ n ∧ n < i + 1 ∧ Pow (Rel row w) n s k)) S) := fun found' g1 g2 => by
      walk_at "w"
      refine hf h' x here _ hx hl hhe fun ks hk hm => ?_
      walk_at "w"
      refine ⟨found', ks, _, rfl, rfl, g1, hk, fun j => ?_, g2⟩
      rw [hm j]
      constructor
      · rintro ⟨s, hs, hr⟩
        obtain ⟨s0, h0, hp⟩ := (q1 s).1 hs
        exact ⟨s0, h0, s, hp, hr⟩
      · rintro ⟨s0, h0, s, hp, hr⟩
        exact ⟨s, (q1 s).2 ⟨s0, h0, hp⟩, hr⟩
    walk_at "w"
    refine ite_b (fun hc => ?_) (fun hc => ?_)
    · have hlo : lo ≤ i := by have := of_decide_eq_true hc; omega
      walk_at "w"
      refine bothR hl hfo hhe ?_
      walk_at "e"
      walk_at "e"
      refine tail _ (Rg.up (Rg.app hfo hhe)) fun j => ?_
      rw [up_app hfo hhe hl, q1 j, q2 j]
      constructor
      · rintro (⟨s, hs, n, a, b, c⟩ | ⟨s, hs, c⟩)
        · exact ⟨s, hs, n, a, by omega, c⟩
        · exact ⟨s, hs, i, hlo, by omega, c⟩
      · rintro ⟨s, hs, n, a, b, c⟩
        by_cases e : n = i
        · subst e; exact .inr ⟨s, hs, c⟩
        · exact .inl ⟨s, hs, n, a, by omega, c⟩
    · have hlo : ¬ lo ≤ i := by have := of_decide_eq_false hc; omega
      walk_at "e"
      walk_at "e"
      refine tail found hfo fun j => ?_
      rw [q2 j]
      exact ⟨fun ⟨s, hs, n, a, b, c⟩ => ⟨s, hs, n, a, by omega, c⟩, fun ⟨s, hs, n, a, b, c⟩ => by omega⟩
  · rintro ρ h' ⟨found, here, v, rfl, rfl, hfo, hhe, q1, q2⟩
    have hlen : ((List.range ((hi : Int) + 1).toNat).map fun (i : Nat) => M.int (i : Int)).length = hi + 1 := by simp
    rw [hlen] at q2
    refine k found _ hfo (fun j => ?_) rfl
    rw [q2 j]
    exact ⟨fun ⟨s, hs, n, a, b, c⟩ => ⟨s, hs, n, a, by omega, c⟩, fun ⟨s, hs, n, a, b, c⟩ => ⟨s, hs, n, a, by omega, c⟩⟩
theorem lends_ok {row : Rw} : ∀ (n : Nat) (w : Wy), deep w ≤ n → WOk w → EOk (mLends n) row w
  | 0, w, hd, _ => by exfalso; cases w <;> simp [deep] at hd
  | n + 1, w, hd, hw => by
    intro h x ns R hx hl hn k
    have ih := fun w' (h' : deep w' ≤ n) (h2 : WOk w') => lends_ok (row := row) n w' h' h2
    show Ens (mFun 3 4 (bLends (mLends n)) _ h) R
    cases w with
    | emp =>
      show Ens (mFun 3 4 (bLends (mLends n)) [.tup [.str "empty"], x, .lst (ns.map M.int)] h) R
      refine e_fun rfl ?_
      unfold bLends
      walk_at "v"
      exact k ns hn fun j => ⟨fun hj => ⟨j, hj, rfl⟩, fun ⟨s, hs, e⟩ => by cases e; exact hs⟩
    | step kd t =>
      show Ens (mFun 3 4 (bLends (mLends n)) [.tup [.str "step", oM kd, .str t], x, .lst (ns.map M.int)] h) R
      refine e_fun rfl ?_
      unfold bLends
      walk_at "v"
      refine e_iL ?_
      walk_at "v"
      refine ⟨_, rfl, by rw [List.length_map]; have := hn.1; omega, ?_⟩
      obtain ⟨g1, g2⟩ := rel_step (k := kd) (t := t) hn
      refine e_filt (intF (stepF row kd t)) incM (fun y hy => ?_) ?_
      · obtain ⟨i, hi, rfl⟩ := List.mem_map.1 hy
        have hr := hn.2 i hi
        refine e_nm ⟨rfl, ?_⟩
        have key : Ens ((tAndM (tV (mOp opLt (mVar 0) (mCB bLen (mCons (mVar 2) mNil)))) (tV (mCall mLof (mCons (mVar 1) (mCons (mOp ixM (mVar 2) (mVar 0)) mNil)))))
            [some (.int i), some (wM (.step kd t)), some x] h) fun t' h2 => h2 = h ∧ t' = stepF row kd t i := by
          have lenq : ∀ {R : M → Prop}, R (.int row.length) → Enp (bLen [x] h) R := fun {R} q => by
            rcases hx with rfl | rfl
            · exact p_lenT (by rw [rm_len]; exact q)
            · exact p_lenL (by rw [rm_len]; exact q)
          refine e_tAnd ?_
          refine e_tV ?_
          refine e_op ?_
          refine e_var rfl ?_
          refine e_cb ?_
          refine e_cons ?_
          refine e_var rfl ?_
          refine e_nil ?_
          refine lenq ?_
          refine p_ltI ?_
          refine e_eb ?_
          refine ite_b (fun hc => ?_) (fun hc => ?_)
          · have hlt := of_decide_eq_true hc
            have hnat : i.toNat < row.length := by omega
            have hp : row[i.toNat]? = some row[i.toNat] := List.getElem?_eq_getElem hnat
            have ixq : ∀ {R : M → Prop}, R (pM row[i.toNat]) → Enp (ixM x (.int i) h) R := fun {R} q => by
              rcases hx with rfl | rfl
              · exact p_ixT (rm_at hr.1 hp) q
              · exact p_ixL (rm_at hr.1 hp) q
            refine e_tV ?_
            refine e_call ?_
            refine e_cons ?_
            refine e_var rfl ?_
            refine e_cons ?_
            refine e_op ?_
            refine e_var rfl ?_
            refine e_var rfl ?_
            refine ixq ?_
            refine e_nil ?_
            refine lof_ok ?_
            refine e_eb ⟨rfl, ?_⟩
            unfold stepF
            rw [hc, hp]; rfl
          · refine ⟨rfl, ?_⟩
            unfold stepF
            rw [hc]; rfl
        refine key.mono fun t' h2 ⟨e1, e2⟩ => ⟨e1, e2, fun _ => ?_⟩
        subst e1
        refine e_op ?_
        refine e_var rfl ?_
        refine e_c ?_
        exact p_addI ⟨rfl, rfl⟩
      · rw [filt_ints, inc_ints]
        walk_at "v"
        exact k _ g1 g2
    | again w =>
      have hd' : deep w ≤ n := by simp [deep] at hd; omega
      show Ens (mFun 3 4 (bLends (mLends n)) [.tup [.str "again", wM w], x, .lst (ns.map M.int)] h) R
      refine e_fun rfl ?_
      unfold bLends
      walk_at "v"
      refine lagain (v0 := none) (ih w hd' hw) hx hl hn fun ks ρ hk hm e => ?_
      walk_at "v"
      refine e_var e ?_
      walk_at "v"
      exact k ks hk hm
    | many w lo hi =>
      have hd' : deep w ≤ n := by simp [deep] at hd; omega
      show Ens (mFun 3 4 (bLends (mLends n)) [.tup [.str "many", wM w, .int lo, .int hi], x, .lst (ns.map M.int)] h) R
      refine e_fun rfl ?_
      unfold bLends
      walk_at "u"
      refine lmany (ih w hd' hw.1) (by have := hw.2.2; omega) hx hl hn fun ks ρ hk hm e => ?_
      walk_at "v"
      refine e_var e ?_
      walk_at "v"
      exact k ks hk hm
    | thn a b =>
      have hd' : deep a ≤ n ∧ deep b ≤ n := by simp [deep] at hd; omega
      show Ens (mFun 3 4 (bLends (mLends n)) [.tup [.str "then", wM a, wM b], x, .lst (ns.map M.int)] h) R
      refine e_fun rfl ?_
      unfold bLends
      walk_at "v"
      refine ih a hd'.1 hw.1 h x ns _ hx hl hn fun ms hm h1 => ?_
      walk_at "v"
      exact ih b hd'.2 hw.2 h x ms _ hx hl hm fun ks hk h2 => k ks hk (rel_thn h1 h2)
    | alt a b =>
      have hd' : deep a ≤ n ∧ deep b ≤ n := by simp [deep] at hd; omega
      show Ens (mFun 3 4 (bLends (mLends n)) [.tup [.str "or", wM a, wM b], x, .lst (ns.map M.int)] h) R
      refine e_fun rfl ?_
      unfold bLends
      walk_at "v"
      refine ih a hd'.1 hw.1 h x ns _ hx hl hn fun ms hm h1 => ?_
      walk_at "v"
      refine ih b hd'.2 hw.2 h x ns _ hx hl hn fun ks hk h2 => ?_
      walk_at "v"
      exact bothR hl hm hk (k _ (Rg.up (Rg.app hm hk)) fun j => by rw [up_app hm hk hl]; exact rel_alt h1 h2 j)
local macro_rules | `(tactic| walk_at "s") => `(tactic| repeat (first | walk_at "x" | (with_reducible refine ite_lf (by decide +kernel) ?_) | (with_reducible refine ite_lt (by decide +kernel) ?_) | (with_reducible refine ⟨_, rfl, ?_⟩)))
open Classical in
noncomputable def T (row : Rw) (w : Wy) : Bool := decide (Rel row w 0 row.length)
theorem rg0 (row : Rw) : Rg row [0] := ⟨by simp, fun k hk => by simp at hk; subst hk; omega⟩
theorem T_of {row : Rw} {w : Wy} {ks : List Int} (hm : ∀ k, k ∈ ks ↔ ∃ s ∈ [(0 : Int)], Rel row w s k) : decide ((row.length : Int) ∈ ks) = T row w := by
  unfold T
  classical
  rw [Bool.eq_iff_iff, decide_eq_true_eq, decide_eq_true_eq, hm]
  simp
theorem lenq {row : Rw} {x : M} {h : HpM} {R : M → Prop} (hx : x = .tup (rM row) ∨ x = .lst (rM row)) (q : R (.int row.length)) : Enp (bLen [x] h) R := by
  rcases hx with rfl | rfl
  · exact p_lenT (by rw [rm_len]; exact q)
  · exact p_lenL (by rw [rm_len]; exact q)
theorem tells_ok {row : Rw} {w : Wy} {x : M} {h : HpM} {R : M → HpM → Prop} (hd : deep w ≤ 12) (hw : WOk w) (hx : x = .tup (rM row) ∨ x = .lst (rM row)) (hl : row.length ≤ 40) (k : R (.bl (T row w)) h) : Ens (m_tells [wM w, x] h) R := by
  refine e_fun rfl ?_
  unfold b_tells
  walk_at "x"
  walk_at "x"
  walk_at "x"
  walk_at "x"
  refine e_var rfl ?_
  walk_at "x"
  refine lenq hx ?_
  walk_at "x"
  walk_at "x"
  refine e_var rfl ?_
  walk_at "x"
  refine e_var rfl ?_
  walk_at "x"
  walk_at "x"
  walk_at "x"
  walk_at "x"
  walk_at "x"
  walk_at "x"
  walk_at "x"
  refine ends_ok 12 w hd hw h x [0] _ hx hl (rg0 row) fun ks hk hm => ?_
  refine p_inI ?_
  rw [T_of hm]
  exact k
theorem ltells_ok {row : Rw} {w : Wy} {x : M} {h : HpM} {R : M → HpM → Prop} (hd : deep w ≤ 12) (hw : WOk w) (hx : x = .tup (rM row) ∨ x = .lst (rM row)) (hl : row.length ≤ 40) (k : R (.bl (T row w)) h) : Ens (mLtells [wM w, x] h) R := by
  refine e_fun rfl ?_
  unfold bLtells
  walk_at "x"
  walk_at "x"
  walk_at "x"
  walk_at "x"
  refine e_var rfl ?_
  walk_at "x"
  refine lenq hx ?_
  walk_at "x"
  walk_at "x"
  refine e_var rfl ?_
  walk_at "x"
  refine e_var rfl ?_
  walk_at "x"
  walk_at "x"
  walk_at "x"
  walk_at "x"
  walk_at "x"
  walk_at "x"
  walk_at "x"
  refine lends_ok 12 w hd hw h x [0] _ hx hl (rg0 row) fun ks hk hm => ?_
  refine p_inI ?_
  rw [T_of hm]
  exact k
def BoxAt (h : HpM) (p : Nat) (c : Nat) : Prop := ∃ a b : Int, ∃ n : Nat, h[p]? = some (.lst [.int a, .int b, .int n]) ∧ 0 ≤ a ∧ 0 ≤ b ∧ b < 4000000000000000000 ∧ n ≤ c
theorem BoxAt.mono {h : HpM} {p : Nat} {c c' : Nat} (b : BoxAt h p c) (hc : c ≤ c') : BoxAt h p c' := by
  obtain ⟨a, b, n, h1, h2, h3, h4, h5⟩ := b
  exact ⟨a, b, n, h1, h2, h3, h4, by omega⟩
theorem take_ok {h : HpM} {p : Nat} {c : Nat} {many : Int} {R : M → HpM → Prop} (hh : BoxAt h p c) (m1 : 0 < many) (m2 : many < 1073741824) (m3 : c < 1000000)
    (k : ∀ r h', 0 ≤ r → r < many → BoxAt h' p (c + 1) → R (.int r) h') : Ens (mLtake [.ref p, .int many] h) R := by
  obtain ⟨a, b, n, e, ha, hb, hb2, hnc⟩ := hh
  refine e_fun rfl ?_
  unfold bLtake
  walk_at "es"
  refine p_ixR e rfl ?_
  walk_at "es"
  refine ite_b (fun _ => ?_) (fun _ => ?_)
  · walk_at "es"
    refine p_ixR e rfl ?_
    walk_at "es"
    refine p_ixR e rfl ?_
    walk_at "es"
    refine e_put (k := p) (j := 0) rfl rfl e rfl fun h1 e1 k1 => ?_
    walk_at "es"
    exact k _ _ (Int.emod_nonneg _ (by omega)) (Int.emod_lt_of_pos _ m1) ⟨_, b, n, e1, Int.ediv_nonneg ha (by omega), hb, hb2, by omega⟩
  · walk_at "es"
    refine p_ixR e rfl ?_
    walk_at "es"
    refine e_put (k := p) (j := 2) rfl rfl e rfl fun h1 e1 k1 => ?_
    replace e1 : h1[p]? = some (.lst [.int a, .int b, .int ((n : Int) + 1)]) := e1
    walk_at "es"
    refine p_ixR e1 rfl ?_
    walk_at "es"
    refine p_ixR e1 rfl ?_
    have hn1 : (0 : Int) ≤ (n : Int) + 1 ∧ (n : Int) + 1 < 1000002 := by omega
    generalize hq : (n : Int) + 1 = q at hn1 e1
    walk_at "e"
    walk_at "e"
    walk_at "e"
    walk_at "e"
    walk_at "e"
    walk_at "e"
    walk_at "e"
    walk_at "e"
    walk_at "e"
    walk_at "es"
    exact k _ _ (Int.emod_nonneg _ (by omega)) (Int.emod_lt_of_pos _ m1) ⟨a, b, n + 1, (by show h1[p]? = some (.lst [.int a, .int b, .int ((n : Int) + 1)]); rw [hq]; exact e1), ha, hb, hb2, by omega⟩
def Kinds (xs : List M) : Prop := (∀ x ∈ xs, ∃ z ∈ kns, x = .str z) ∧ 1 ≤ xs.length ∧ xs.length ≤ 8
def kindsL : List M := [.str "knows", .str "a", .str "aa", .str "zebra", .str "empty", .str "quartzes", .str "again", .str "likes"]
def isKn (x : M) : Bool := match x with | .str z => kns.any (· == z) | _ => false
def kindsOk (r m : Nat) : Bool := let ys := cutM (cutM kindsL (some (r : Int)) none ++ cutM kindsL none (some (r : Int))) none (some (m : Int)); ys.all isKn && decide (1 ≤ ys.length) && decide (ys.length ≤ 8) && decide ((cutM kindsL (some (r : Int)) none).length + (cutM kindsL none (some (r : Int))).length ≤ 16777216)
theorem kinds_all : (List.range 8).all (fun r => (List.range 9).all fun m => m == 0 || kindsOk r m) = true := by decide +kernel
theorem kinds_of {r m : Int} (h0 : 0 ≤ r) (h1 : r < 8) (h2 : 1 ≤ m) (h3 : m ≤ 8) : Kinds (cutM (cutM kindsL (some r) none ++ cutM kindsL none (some r)) none (some m)) ∧ (cutM kindsL (some r) none).length + (cutM kindsL none (some r)).length ≤ 16777216 := by
  obtain ⟨a, rfl⟩ := Int.eq_ofNat_of_zero_le h0
  obtain ⟨b, rfl⟩ := Int.eq_ofNat_of_zero_le (show 0 ≤ m by omega)
  have := List.all_eq_true.1 (List.all_eq_true.1 kinds_all a (List.mem_range.2 (by omega))) b (List.mem_range.2 (by omega))
  rw [Bool.or_eq_true, beq_iff_eq] at this
  rcases this with e | e
  · omega
  · unfold kindsOk at e
    simp only [Bool.and_eq_true, decide_eq_true_eq] at e
    obtain ⟨⟨⟨e1, e2⟩, e3⟩, e4⟩ := e
    refine ⟨⟨fun x hx => ?_, e2, e3⟩, e4⟩
    have := List.all_eq_true.1 e1 x hx
    cases x with
    | str z =>
      obtain ⟨y, hy, e⟩ := List.any_eq_true.1 (show kns.any (· == z) = true from this)
      exact ⟨z, by rw [← eq_of_beq e]; exact hy, rfl⟩
    | _ => cases this
theorem kinds_ok {h : HpM} {p : Nat} {c : Nat} {R : M → HpM → Prop} (hh : BoxAt h p c) (hc : c < 900000) (k : ∀ xs h', Kinds xs → BoxAt h' p (c + 4) → R (.lst xs) h') : Ens (mLkinds [.ref p] h) R := by
  refine e_fun rfl ?_
  unfold bLkinds
  walk_at "v"
  refine take_ok hh (by decide) (by decide) (by omega) fun r h1 r0 r1 b1 => ?_
  walk_at "v"
  refine take_ok b1 (by decide) (by decide) (by omega) fun r2 h2 r20 r21 b2 => ?_
  walk_at "v"
  refine take_ok b2 (by decide) (by decide) (by omega) fun r3 h3 r30 r31 b3 => ?_
  walk_at "v"
  refine ite_b (fun _ => ?_) (fun _ => ?_)
  · walk_at "v"
    refine take_ok b3 (by decide) (by decide) (by omega) fun r4 h4 r40 r41 b4 => ?_
    obtain ⟨g1, g2⟩ := kinds_of r0 r1 (m := 7 + r4) (by omega) (by omega)
    walk_at "s"
    refine p_addL g2 ?_
    walk_at "s"
    exact k _ h4 g1 b4
  · obtain ⟨g1, g2⟩ := kinds_of r0 r1 (m := 1 + r2) (by omega) (by omega)
    walk_at "s"
    refine p_addL g2 ?_
    walk_at "s"
    exact k _ h3 g1 (b3.mono (by omega))
def tns : List M := [.str "forth", .str "back", .str "either", .str "forth"]
theorem tn_str : ∀ x ∈ tns, ∃ t ∈ tnk, x = .str t := fun x hx => by
  simp only [tns, List.mem_cons, List.not_mem_nil, or_false] at hx
  rcases hx with rfl | rfl | rfl | rfl <;> exact ⟨_, by decide +kernel, rfl⟩
theorem leaf_ok {h : HpM} {p : Nat} {c : Nat} {xs : List M} {R : M → HpM → Prop} (hk : Kinds xs) (hh : BoxAt h p c) (hc : c < 900000) (k : ∀ w h', BoxAt h' p (c + 3) → (w = .emp ∨ ∃ k t, w = .step k t ∧ (∀ z, k = some z → z ∈ kns) ∧ t ∈ tnk) → R (wM w) h') : Ens (mLleaf [.ref p, .lst xs] h) R := by
  refine e_fun rfl ?_
  unfold bLleaf
  walk_at "s"
  refine take_ok hh (by decide) (by decide) (by omega) fun r h1 r0 r1 b1 => ?_
  walk_at "s"
  refine ite_b (fun _ => ?_) (fun _ => ?_)
  · walk_at "s"
    exact k .emp h1 (b1.mono (by omega)) (.inl rfl)
  · walk_at "s"
    have hk2 := hk.2
    refine take_ok b1 (by omega) (by omega) (by omega) fun r2 h2 r20 r21 b2 => ?_
    refine p_any r20 r21 fun x hx => ?_
    obtain ⟨z, hz, rfl⟩ := hk.1 x hx
    have fin : ∀ (kd : Option Str) ρ, (∀ z, kd = some z → z ∈ kns) → ρ = [some (.ref p), some (.lst xs), some (.int r), some (oM kd)] → Ens (sRet (mTup (mCons (mC (.str "step")) (mCons (mVar 3) (mCons (mOp ixM (mTup (mCons (mC (.str "forth")) (mCons (mC (.str "back")) (mCons (mC (.str "either")) (mCons (mC (.str "forth")) mNil))))) (mCall mLtake (mCons (mVar 0) (mCons (mC (.int 4)) mNil)))) mNil)))) ρ h2) (FQ R) := by
      rintro kd ρ hkd rfl
      walk_at "s"
      refine take_ok b2 (by decide) (by decide) (by omega) fun r3 h3 r30 r31 b3 => ?_
      refine p_anyT (xs := tns) r30 (by simpa [tns] using r31) fun x hx => ?_
      obtain ⟨t, ht, rfl⟩ := tn_str x hx
      walk_at "s"
      exact k (.step kd t) h3 b3 (.inr ⟨_, _, rfl, hkd, ht⟩)
    walk_at "x"
    refine e_sqN ?_
    refine e_seq ?_
    refine e_sif ?_
    walk_at "s"
    refine ite_b (fun _ => ?_) (fun _ => ?_)
    · refine e_asg ?_
      refine e_c ?_
      refine e_nm ?_
      refine e_sqN ?_
      exact fin none _ (fun z e => by cases e) rfl
    · refine e_next ?_
      refine e_sqN ?_
      exact fin (some z) _ (fun y e => by cases e; exact hz) rfl
def sz : Wy → Nat
  | .emp => 1
  | .step _ _ => 3
  | .again w => 3 * sz w + 1
  | .many w _ _ => 6 * sz w + 1
  | .thn a b => sz a + sz b + 1
  | .alt a b => sz a + sz b + 1
def Fits (nest room : Nat) (w : Wy) : Prop := sz w + 1 ≤ 4 * (6 ^ nest) * room
def wds : List M := [.str "then", .str "or"]
theorem way_ok {p : Nat} {xs : List M} (hk : Kinds xs) : ∀ (n room nest : Nat) {h : HpM} {c : Nat} {R : M → HpM → Prop}, 1 ≤ room → room ≤ n → nest ≤ 2 → BoxAt h p c → c + 10 * room < 900000 →
    (∀ w h', BoxAt h' p (c + 10 * room) → WOk w → deep w ≤ room → Fits nest room w → R (wM w) h') → Ens (mLway n [.ref p, .lst xs, .int room, .int nest] h) R
  | 0, room, nest, h, c, R, h1, h2, _, _, _, _ => by omega
  | n + 1, room, nest, h, c, R, h1, h2, h3, hb, hc, k => by
    show Ens (mFun 4 5 (bLway (mLway n)) [.ref p, .lst xs, .int room, .int nest] h) R
    refine e_fun rfl ?_
    unfold bLway
    refine e_seq ?_
    refine e_asg ?_
    refine e_call ?_
    refine e_cons ?_
    refine e_var rfl ?_
    refine e_cons ?_
    refine e_c ?_
    refine e_nil ?_
    refine take_ok hb (by decide) (by decide) (by omega) fun how g1 w0 w1 b1 => ?_
    refine e_nm ?_
    refine e_sqN ?_
    refine e_seq ?_
    have hn : nest = 0 ∨ nest = 1 ∨ nest = 2 := by omega
    have leaf : ∀ {S : Out → HpM → Prop}, (∀ d h', R d h' → S (.rt d) h') → Ens (sRet (mCall mLleaf (mCons (mVar 0) (mCons (mVar 1) mNil))) [some (.ref p), some (.lst xs), some (.int room), some (.int nest), some (.int how), none, none, none, none] g1) S := fun hS => by
      refine e_ret ?_
      walk_at "s"
      refine leaf_ok hk b1 (by omega) fun w h' b' hw => hS _ _ ?_
      refine k w h' (b'.mono (by omega)) ?_ ?_ ?_
      · rcases hw with rfl | ⟨_, _, rfl, q⟩
        · trivial
        · exact q
      · rcases hw with rfl | ⟨_, _, rfl, _⟩ <;> exact h1
      · unfold Fits
        rcases hn with rfl | rfl | rfl <;> rcases hw with rfl | ⟨_, _, rfl, _⟩ <;> simp [sz] <;> omega
    refine e_sif ?_
    refine Ens.mono (Q := fun t h2 => h2 = g1 ∧ t = (decide ((room : Int) < 2) || (decide (how < 2) || (decide ((room : Int) < 3) && ((nest : Int) == 0))))) ?_ ?_
    · refine e_tOr ?_
      walk_at "s"
      refine ite_b (fun e1 => ⟨rfl, by rw [e1]; rfl⟩) (fun e1 => ?_)
      refine e_tOr ?_
      walk_at "s"
      refine ite_b (fun e2 => ⟨rfl, by rw [e1, e2]; rfl⟩) (fun e2 => ?_)
      refine e_tAnd ?_
      walk_at "s"
      refine ite_b (fun e3 => ?_) (fun e3 => ⟨rfl, by rw [e1, e2, e3]; rfl⟩)
      walk_at "s"
      exact ⟨rfl, by rw [e1, e2, e3]; rfl⟩
    rintro t h2 ⟨rfl, et⟩
    refine ite_b (fun _ => leaf fun d h' q => q) (fun e => ?_)
    rw [e] at et
    have room2 : 2 ≤ room ∧ (room < 3 → nest ≠ 0) := by simp at et; omega
    refine e_next ?_
    refine e_sqN ?_
    refine e_seq ?_
    refine e_sif ?_
    refine Ens.mono (Q := fun t h' => h' = h2 ∧ t = ((decide (how < 4) || decide ((room : Int) < 3)) && decide ((0 : Int) < nest))) ?_ ?_
    · refine e_tAnd ?_
      refine e_tOr ?_
      walk_at "s"
      refine ite_b (fun e1 => ?_) (fun e1 => ?_)
      · refine ite_t ?_
        walk_at "s"
        exact ⟨rfl, by rw [e1]; rfl⟩
      · walk_at "s"
        refine ite_b (fun e2 => ?_) (fun e2 => ⟨rfl, by rw [e1, e2]; rfl⟩)
        walk_at "s"
        exact ⟨rfl, by rw [e1, e2]; rfl⟩
    rintro t h3' ⟨rfl, et2⟩
    refine ite_b (fun e2 => ?_) (fun e2 => ?_)
    · rw [e2] at et2
      have hne : 0 < nest := by simp at et2; omega
      walk_at "s"
      rw [show (room : Int) - 1 = ((room - 1 : Nat) : Int) by omega, show (nest : Int) - 1 = ((nest - 1 : Nat) : Int) by omega]
      refine way_ok hk n (room - 1) (nest - 1) (by omega) (by omega) (by omega) b1 (by omega) fun w h' b' hw hd hf => ?_
      walk_at "s"
      refine k (.again w) h' (b'.mono (by omega)) hw (by simp [deep]; omega) ?_
      unfold Fits at hf ⊢
      rcases hn with rfl | rfl | rfl
      · omega
      · simp [sz] at hf ⊢; omega
      · simp [sz] at hf ⊢; omega
    · rw [e2] at et2
      have room3 : 3 ≤ room := by simp at et2; omega
      refine e_next ?_
      refine e_sqN ?_
      refine e_seq ?_
      refine e_sif ?_
      refine Ens.mono (Q := fun t h' => h' = h3' ∧ t = ((how == 4) && decide ((0 : Int) < nest))) ?_ ?_
      · refine e_tAnd ?_
        walk_at "s"
        refine ite_b (fun e1 => ?_) (fun e1 => ⟨rfl, by rw [e1]; rfl⟩)
        walk_at "s"
        exact ⟨rfl, by rw [e1]; rfl⟩
      rintro t h4 ⟨rfl, et3⟩
      refine ite_b (fun e3 => ?_) (fun e3 => ?_)
      · rw [e3] at et3
        have hne : 0 < nest := by simp at et3; omega
        walk_at "s"
        refine take_ok b1 (by decide) (by decide) (by omega) fun lo g2 l0 l1 b2 => ?_
        obtain ⟨lo, rfl⟩ := Int.eq_ofNat_of_zero_le l0
        walk_at "s"
        refine take_ok b2 (by decide) (by decide) (by omega) fun q g3 q0 q1 b3 => ?_
        refine p_anyT (xs := [.int 2, .int 2, .int 4]) q0 (by simpa using q1) fun y hy => ?_
        have hy' : ∃ z : Int, y = .int z ∧ 2 ≤ z ∧ z ≤ 4 := by
          simp only [List.mem_cons, List.not_mem_nil, or_false] at hy
          rcases hy with rfl | rfl | rfl <;> exact ⟨_, rfl, by decide, by decide⟩
        obtain ⟨z, rfl, z0, z1⟩ := hy'
        walk_at "s"
        refine take_ok b3 (by omega) (by omega) (by omega) fun u g4 u0 u1 b4 => ?_
        obtain ⟨u, rfl⟩ := Int.eq_ofNat_of_zero_le u0
        walk_at "s"
        rw [show (room : Int) - 1 = ((room - 1 : Nat) : Int) by omega, show (nest : Int) - 1 = ((nest - 1 : Nat) : Int) by omega]
        refine way_ok hk n (room - 1) (nest - 1) (by omega) (by omega) (by omega) b4 (by omega) fun w h' b' hw hd hf => ?_
        walk_at "s"
        refine k (.many w lo (lo + u)) h' (b'.mono (by omega)) ⟨hw, by omega, by omega⟩ (by simp [deep]; omega) ?_
        unfold Fits at hf ⊢
        rcases hn with rfl | rfl | rfl
        · omega
        · simp [sz] at hf ⊢; omega
        · simp [sz] at hf ⊢; omega
      · refine e_next ?_
        refine e_sqN ?_
        walk_at "s"
        refine take_ok b1 (by omega) (by omega) (by omega) fun lf g2 l0 l1 b2 => ?_
        obtain ⟨lf, rfl⟩ := Int.eq_ofNat_of_zero_le l0
        walk_at "s"
        rw [show (1 : Int) + (lf : Int) = ((1 + lf : Nat) : Int) by omega]
        refine way_ok hk n (1 + lf) nest (by omega) (by omega) h3 b2 (by omega) fun a g3 b3 wa da fa => ?_
        walk_at "s"
        refine p_anyT (xs := wds) (Int.emod_nonneg _ (by decide)) (Int.emod_lt_of_pos _ (by decide)) fun y hy => ?_
        walk_at "s"
        rw [show (room : Int) - 1 - ((1 + lf : Nat) : Int) = ((room - 1 - (1 + lf) : Nat) : Int) by omega]
        refine way_ok hk n (room - 1 - (1 + lf)) nest (by omega) (by omega) h3 b3 (by omega) fun b g4 b4 wb db fb => ?_
        walk_at "s"
        have hfit : sz a + sz b + 1 + 1 ≤ 4 * 6 ^ nest * room := by
          unfold Fits at fa fb
          rcases hn with rfl | rfl | rfl <;> simp at fa fb ⊢ <;> omega
        simp only [wds, List.mem_cons, List.not_mem_nil, or_false] at hy
        rcases hy with rfl | rfl
        · exact k (.thn a b) g4 (b4.mono (by omega)) ⟨wa, wb⟩ (by simp [deep]; omega) hfit
        · exact k (.alt a b) g4 (b4.mono (by omega)) ⟨wa, wb⟩ (by simp [deep]; omega) hfit
local macro_rules | `(tactic| walk_at "u") => `(tactic| repeat ((fail_if_success with_reducible refine e_for ?_); first | walk_at "x" | (with_reducible refine ite_lf (by decide +kernel) ?_) | (with_reducible refine ite_lt (by decide +kernel) ?_) | (with_reducible refine ⟨_, rfl, ?_⟩)))
def least : Wy → Nat
  | .emp => 0
  | .step _ _ => 1
  | .again _ => 0
  | .many w lo _ => lo * least w
  | .thn a b => least a + least b
  | .alt a b => min (least a) (least b)
def FB (row : Rw) : Prop := ∀ p ∈ row, p.2 = "forth" ∨ p.2 = "back"
theorem FB.app {a b : Rw} (ha : FB a) (hb : FB b) : FB (a ++ b) := fun p hp => (List.mem_append.1 hp).elim (ha p) (hb p)
theorem rM_app (a b : Rw) : rM a ++ rM b = rM (a ++ b) := by unfold rM; rw [List.map_append]
theorem loop_ok {f : FF} {p : Nat} {xs ws : List M} {w : Wy} {m c : Nat} {h : HpM} {R : M → HpM → Prop} {v3 v4 v5 : Option M} (hm : m ≤ 6) (hs : sz w ≤ 10000) (hb : BoxAt h p c) (hc : c + m * sz w < 900000)
    (hq : 0 < m → ws[1]? = some (wM w) ∧ ∀ {h : HpM} {c : Nat} {R : M → HpM → Prop}, BoxAt h p c → c + sz w < 900000 → (∀ row h', BoxAt h' p (c + sz w) → row.length ≤ sz w → least w ≤ row.length → FB row → R (.tup (rM row)) h') → Ens (f [.ref p, wM w, .lst xs] h) R)
    (k : ∀ row h', BoxAt h' p (c + m * sz w) → row.length ≤ m * sz w → m * least w ≤ row.length → FB row → R (.tup (rM row)) h') :
    Ens (sFor (iR1 (mCons (mVar 6) mNil)) (gNm 5) (sAsg (mOp opAdd (mVar 7) (mCall f (mCons (mVar 0) (mCons (mOp ixM (mVar 1) (mC (.int 1))) (mCons (mVar 2) mNil))))) (gNm 7))
      [some (.ref p), some (.tup ws), some (.lst xs), v3, v4, v5, some (.int m), some (.tup [])] h) (SQ (sRet (mVar 7)) (FQ R)) := by
  walk_at "x"
  refine e_iR1 ?_
  walk_at "x"
  walk_at "x"
  walk_at "x"
  refine ⟨(m : Int), rfl, by omega, ?_⟩
  refine e_over (fun i ρ h' => ∃ row v, ρ = [some (.ref p), some (.tup ws), some (.lst xs), v3, v4, v, some (.int m), some (.tup (rM row))] ∧ BoxAt h' p (c + i * sz w) ∧ row.length ≤ i * sz w ∧ i * least w ≤ row.length ∧ FB row) ⟨[], _, rfl, by simpa using hb, by simp, by simp, fun p hp => by cases hp⟩ ?_ ?_
  · rintro i y ρ h' hy ⟨row, v, rfl, b, hr, hL, hF⟩
    have hi : i < m := by
      have := (List.getElem?_eq_some_iff.1 hy).1
      simpa using this
    have h6 : (i + 1) * sz w ≤ m * sz w := Nat.mul_le_mul_right _ (by omega)
    have h5 : m * sz w ≤ 6 * 10000 := Nat.mul_le_mul hm hs
    have h7 : (i + 1) * sz w = i * sz w + sz w := Nat.succ_mul _ _
    have h8 : (i + 1) * least w = i * least w + least w := Nat.succ_mul _ _
    obtain ⟨q1, q2⟩ := hq (by omega)
    refine e_body ?_
    refine e_nm ?_
    refine e_asg ?_
    refine e_op ?_
    refine e_var rfl ?_
    refine e_call ?_
    refine e_cons ?_
    refine e_var rfl ?_
    refine e_cons ?_
    refine e_op ?_
    refine e_var rfl ?_
    refine e_c ?_
    refine p_tn (j := 1) q1 ?_
    refine e_cons ?_
    refine e_var rfl ?_
    refine e_nil ?_
    refine q2 b (by omega) fun r2 h2 b2 l2 L2 F2 => ?_
    refine p_addT (by rw [rm_len, rm_len]; omega) ?_
    rw [rM_app]
    refine e_nm ?_
    refine ⟨row ++ r2, _, rfl, b2.mono (by omega), by rw [List.length_append]; omega, by rw [List.length_append]; omega, hF.app F2⟩
  · rintro ρ h' ⟨row, v, rfl, b, hr, hL, hF⟩
    have hlen : ((List.range (m : Int).toNat).map fun (i : Nat) => M.int (i : Int)).length = m := by simp
    rw [hlen] at b hr hL
    refine e_sqN ?_
    refine e_ret ?_
    refine e_var rfl ?_
    exact k row h' b hr hL hF
theorem turn_fb {t : Str} (ht : t ∈ tnk) (hne : (t == ("either" : Str)) = false) : t = "forth" ∨ t = "back" := by
  simp only [tnk, List.mem_cons, List.not_mem_nil, or_false] at ht
  rcases ht with rfl | rfl | rfl
  · exact .inl rfl
  · exact .inr rfl
  · exact absurd hne (by decide +kernel)
theorem row_ok {p : Nat} {xs : List M} (hk : Kinds xs) : ∀ (n : Nat) (w : Wy) {h : HpM} {c : Nat} {R : M → HpM → Prop}, deep w ≤ n → WOk w → sz w ≤ 10000 → BoxAt h p c → c + sz w < 900000 →
    (∀ row h', BoxAt h' p (c + sz w) → row.length ≤ sz w → least w ≤ row.length → FB row → R (.tup (rM row)) h') → Ens (mLrow_of n [.ref p, wM w, .lst xs] h) R
  | 0, w, h, c, R, hd, _, _, _, _, _ => by exfalso; cases w <;> simp [deep] at hd
  | n + 1, w, h, c, R, hd, hw, hz, hb, hc, k => by
    show Ens (mFun 3 5 (bLrow_of (mLrow_of n)) _ h) R
    cases w with
    | emp =>
      show Ens (mFun 3 5 (bLrow_of (mLrow_of n)) [.ref p, .tup [.str "empty"], .lst xs] h) R
      refine e_fun rfl ?_
      unfold bLrow_of
      walk_at "u"
      exact loop_ok (m := 0) (w := .emp) (by decide) (by decide) hb (by omega) (fun h => absurd h (by decide)) fun row h' b l L F => k row h' (b.mono (by omega)) (by omega) (by show 0 ≤ _; omega) F
    | step kd t =>
      show Ens (mFun 3 5 (bLrow_of (mLrow_of n)) [.ref p, .tup [.str "step", oM kd, .str t], .lst xs] h) R
      have hc3 : c + 3 < 900000 := hc
      refine e_fun rfl ?_
      unfold bLrow_of
      walk_at "s"
      refine e_par ?_
      walk_at "s"
      refine ⟨_, _, rfl, ?_⟩
      have fin : ∀ {S : Out → HpM → Prop} (hS : ∀ d h', R d h' → S (.rt d) h') (z y : Str) ρ g c', (y = "forth" ∨ y = "back") → c' ≤ c + 3 → BoxAt g p c' → ρ[4]? = some (some (.str z)) → ρ[5]? = some (some (.str y)) → Ens (sRet (mTup (mCons (mTup (mCons (mVar 4) (mCons (mVar 5) mNil))) mNil)) ρ g) S := fun hS z y ρ g c' hy' hc' b e1 e2 => by
        refine e_ret ?_
        refine e_tup ?_
        refine e_cons ?_
        refine e_tup ?_
        refine e_cons ?_
        refine e_var e1 ?_
        refine e_cons ?_
        refine e_var e2 ?_
        refine e_nil ?_
        refine ⟨by simp, ?_⟩
        refine e_nil ?_
        refine ⟨by simp, ?_⟩
        refine hS _ _ ?_
        exact k [(z, y)] g (b.mono hc') (by show 1 ≤ 3; decide) (by show 1 ≤ 1; decide) (fun p hp => by rw [List.mem_singleton.1 hp]; exact hy')
      have turn : ∀ {S : Out → HpM → Prop} (hS : ∀ d h', R d h' → S (.rt d) h') (z : Str) g, BoxAt g p (c + 1) → Ens ((sSeq (sIf (tV (mOp opEq (mVar 5) (mC (.str "either")))) (sAsg (mOp ixM (mTup (mCons (mC (.str "forth")) (mCons (mC (.str "back")) mNil))) (mCall mLtake (mCons (mVar 0) (mCons (mC (.int 2)) mNil)))) (gNm 5)) sNext)
          (sRet (mTup (mCons (mTup (mCons (mVar 4) (mCons (mVar 5) mNil))) mNil)))) [some (.ref p), some (.tup [.str "step", oM kd, .str t]), some (.lst xs), some (.str "step"), some (.str z), some (.str t), none, none] g) S := fun hS z g b => by
        refine e_seq ?_
        refine e_sif ?_
        walk_at "s"
        refine ite_b (fun _ => ?_) (fun hne => ?_)
        · refine e_asg ?_
          walk_at "s"
          refine take_ok b (by decide) (by decide) (by omega) fun r g2 r0 r1 b2 => ?_
          refine p_anyT (xs := [.str "forth", .str "back"]) r0 (by simpa using r1) fun y hy => ?_
          have hy' : ∃ q : Str, y = .str q ∧ (q = "forth" ∨ q = "back") := by
            simp only [List.mem_cons, List.not_mem_nil, or_false] at hy
            rcases hy with rfl | rfl
            · exact ⟨_, rfl, .inl rfl⟩
            · exact ⟨_, rfl, .inr rfl⟩
          obtain ⟨q, rfl, hq⟩ := hy'
          refine e_nm ?_
          refine e_sqN ?_
          exact fin hS z q _ g2 (c + 1 + 1) hq (by omega) b2 rfl rfl
        · refine e_next ?_
          refine e_sqN ?_
          exact fin hS z t _ g (c + 1) (turn_fb hw.2 hne) (by omega) b rfl rfl
      refine e_sqN ?_
      refine e_seq ?_
      refine e_sif ?_
      cases kd with
      | none =>
        have hk2 := hk.2
        walk_at "s"
        refine p_addL (by simp; omega) ?_
        walk_at "s"
        refine take_ok hb (by omega) (by omega) (by omega) fun r g r0 r1 b1 => ?_
        refine p_any r0 (by simp; omega) fun y hy => ?_
        have hy' : ∃ q : Str, y = .str q := by
          rcases List.mem_append.1 hy with g | g
          · obtain ⟨q, _, e⟩ := hk.1 y g
            exact ⟨q, e⟩
          · simp at g; exact ⟨_, g⟩
        obtain ⟨q, rfl⟩ := hy'
        refine e_nm ?_
        refine e_sqN ?_
        exact turn (fun d h' q => q) q g b1
      | some z =>
        walk_at "s"
        refine ite_lf (by rfl) ?_
        refine e_next ?_
        refine e_sqN ?_
        exact turn (fun d h' q => q) z h (hb.mono (by omega))
    | again w =>
      have hd' : deep w ≤ n := by simp [deep] at hd; omega
      have hz' : 3 * sz w + 1 ≤ 10000 := hz
      have hc' : c + (3 * sz w + 1) < 900000 := hc
      show Ens (mFun 3 5 (bLrow_of (mLrow_of n)) [.ref p, .tup [.str "again", wM w], .lst xs] h) R
      refine e_fun rfl ?_
      unfold bLrow_of
      walk_at "u"
      refine take_ok hb (by decide) (by decide) (by omega) fun r g r0 r1 b1 => ?_
      obtain ⟨r, rfl⟩ := Int.eq_ofNat_of_zero_le r0
      walk_at "u"
      have h3 : r * sz w ≤ 3 * sz w := Nat.mul_le_mul_right _ (by omega)
      exact loop_ok (w := w) (by omega) (by omega) b1 (by omega) (fun _ => ⟨rfl, fun b' c' k' => row_ok hk n w hd' hw (by omega) b' c' k'⟩) fun row h' b l L F => k row h' (b.mono (by show _ ≤ c + (3 * sz w + 1); omega)) (by show _ ≤ 3 * sz w + 1; omega) (by show 0 ≤ _; omega) F
    | many w lo hi =>
      have hd' : deep w ≤ n := by simp [deep] at hd; omega
      have hz' : 6 * sz w + 1 ≤ 10000 := hz
      have hc' : c + (6 * sz w + 1) < 900000 := hc
      obtain ⟨hw1, hw2, hw3⟩ := hw
      show Ens (mFun 3 5 (bLrow_of (mLrow_of n)) [.ref p, .tup [.str "many", wM w, .int lo, .int hi], .lst xs] h) R
      refine e_fun rfl ?_
      unfold bLrow_of
      walk_at "u"
      refine take_ok hb (by omega) (by omega) (by omega) fun r g r0 r1 b1 => ?_
      obtain ⟨r, rfl⟩ := Int.eq_ofNat_of_zero_le r0
      walk_at "u"
      rw [show (lo : Int) + (r : Int) = ((lo + r : Nat) : Int) by omega]
      have h6 : (lo + r) * sz w ≤ 6 * sz w := Nat.mul_le_mul_right _ (by omega)
      exact loop_ok (w := w) (by omega) (by omega) b1 (by omega) (fun _ => ⟨rfl, fun b' c' k' => row_ok hk n w hd' hw1 (by omega) b' c' k'⟩) fun row h' b l L F => k row h' (b.mono (by show _ ≤ c + (6 * sz w + 1); omega)) (by show _ ≤ 6 * sz w + 1; omega) (Nat.le_trans (Nat.mul_le_mul_right _ (by omega)) L) F
    | thn a b =>
      have hd' : deep a ≤ n ∧ deep b ≤ n := by simp [deep] at hd; omega
      have hz' : sz a + sz b + 1 ≤ 10000 := hz
      have hc' : c + (sz a + sz b + 1) < 900000 := hc
      show Ens (mFun 3 5 (bLrow_of (mLrow_of n)) [.ref p, .tup [.str "then", wM a, wM b], .lst xs] h) R
      refine e_fun rfl ?_
      unfold bLrow_of
      walk_at "s"
      refine row_ok hk n a hd'.1 hw.1 (by omega) hb (by omega) fun r1 h1 b1 l1 L1 F1 => ?_
      walk_at "s"
      refine row_ok hk n b hd'.2 hw.2 (by omega) b1 (by omega) fun r2 h2 b2 l2 L2 F2 => ?_
      refine p_addT (by rw [rm_len, rm_len]; omega) ?_
      rw [rM_app]
      walk_at "s"
      exact k _ h2 (b2.mono (by show _ ≤ c + (sz a + sz b + 1); omega)) (by rw [List.length_append]; show _ ≤ sz a + sz b + 1; omega) (by rw [List.length_append]; show least a + least b ≤ _; omega) (F1.app F2)
    | alt a b =>
      have hd' : deep a ≤ n ∧ deep b ≤ n := by simp [deep] at hd; omega
      have hz' : sz a + sz b + 1 ≤ 10000 := hz
      have hc' : c + (sz a + sz b + 1) < 900000 := hc
      show Ens (mFun 3 5 (bLrow_of (mLrow_of n)) [.ref p, .tup [.str "or", wM a, wM b], .lst xs] h) R
      refine e_fun rfl ?_
      unfold bLrow_of
      walk_at "s"
      refine take_ok hb (by decide) (by decide) (by omega) fun r g r0 r1 b1 => ?_
      have hr : r = 0 ∨ r = 1 := by omega
      rcases hr with rfl | rfl
      · refine p_addI ?_
        rw [show (1 : Int) + 0 = 1 from rfl]
        walk_at "s"
        refine row_ok hk n a hd'.1 hw.1 (by omega) b1 (by omega) fun r1 h1 b1 l1 L1 F1 => ?_
        walk_at "s"
        exact k _ h1 (b1.mono (by show _ ≤ c + (sz a + sz b + 1); omega)) (by show _ ≤ sz a + sz b + 1; omega) (by show min (least a) (least b) ≤ _; omega) F1
      · refine p_addI ?_
        rw [show (1 : Int) + 1 = 2 from rfl]
        walk_at "s"
        refine row_ok hk n b hd'.2 hw.2 (by omega) b1 (by omega) fun r1 h1 b1 l1 L1 F1 => ?_
        walk_at "s"
        exact k _ h1 (b1.mono (by show _ ≤ c + (sz a + sz b + 1); omega)) (by show _ ≤ sz a + sz b + 1; omega) (by show min (least a) (least b) ≤ _; omega) F1
theorem cut_row (row : Rw) (lo hi : Option Int) : ∃ r, cutM (rM row) lo hi = rM r ∧ r.length ≤ row.length ∧ (FB row → FB r) := by
  unfold cutM
  refine ⟨(row.drop (HT.sIx (rM row).length 0 lo)).take (HT.sIx (rM row).length (rM row).length hi - HT.sIx (rM row).length 0 lo), ?_, ?_, fun f p hp => f p (List.mem_of_mem_drop (List.mem_of_mem_take hp))⟩
  · unfold rM; rw [List.map_take, List.map_drop]
  · rw [List.length_take, List.length_drop]; omega
theorem cut40 (row : Rw) : ∃ r, cutM (rM row) none (some 40) = rM r ∧ r.length ≤ 40 ∧ (FB row → FB r) := by
  rcases Nat.lt_or_ge row.length 40 with g | g
  · obtain ⟨r, e, l, f⟩ := cut_row row none (some 40)
    exact ⟨r, e, by omega, f⟩
  · refine ⟨row.take 40, ?_, by simp; omega, fun f p hp => f p (List.mem_of_mem_take hp)⟩
    rw [show (some (40 : Int)) = some ((40 : Nat) : Int) from rfl, cut_to (by rw [rm_len]; omega)]
    unfold rM; rw [List.map_take]
section
variable {h : HpM} {R : M → Prop} {a b : Rw} {l1 h1 l2 h2 : Option Int} {q : Str × Str}
theorem p_addRR (hl : a.length + b.length ≤ 1000) (fa : FB a) (fb : FB b) (k : ∀ c : Rw, c.length ≤ a.length + b.length → FB c → R (.tup (rM c))) : Enp (opAdd (.tup (rM a)) (.tup (rM b)) h) R :=
  p_addT (by rw [rm_len, rm_len]; omega) (by rw [rM_app]; exact k _ (by rw [List.length_append]; omega) (fa.app fb))
theorem p_addCC (hl : a.length + b.length ≤ 1000) (fa : FB a) (fb : FB b) (k : ∀ c : Rw, c.length ≤ a.length + b.length → FB c → R (.tup (rM c))) : Enp (opAdd (.tup (cutM (rM a) l1 h1)) (.tup (cutM (rM b) l2 h2)) h) R := by
  obtain ⟨r1, e1, g1, f1⟩ := cut_row a l1 h1
  obtain ⟨r2, e2, g2, f2⟩ := cut_row b l2 h2
  rw [e1, e2]
  exact p_addRR (by omega) (f1 fa) (f2 fb) fun c hc => k c (by omega)
theorem p_addRC (hl : a.length + b.length ≤ 1000) (fa : FB a) (fb : FB b) (k : ∀ c : Rw, c.length ≤ a.length + b.length → FB c → R (.tup (rM c))) : Enp (opAdd (.tup (rM a)) (.tup (cutM (rM b) l2 h2)) h) R := by
  obtain ⟨r2, e2, g2, f2⟩ := cut_row b l2 h2
  rw [e2]
  exact p_addRR (by omega) fa (f2 fb) fun c hc => k c (by omega)
theorem p_addCP (hl : a.length ≤ 900) (fa : FB a) (fq : q.2 = "forth" ∨ q.2 = "back") (k : ∀ c : Rw, c.length ≤ a.length + 1 → FB c → R (.tup (rM c))) : Enp (opAdd (.tup (cutM (rM a) l1 h1)) (.tup [pM q]) h) R := by
  obtain ⟨r1, e1, g1, f1⟩ := cut_row a l1 h1
  rw [e1, show [pM q] = rM [q] from rfl]
  exact p_addRR (by simp; omega) (f1 fa) (fun p hp => by rw [List.mem_singleton.1 hp]; exact fq) fun c hc => k c (by simp at hc; omega)
end
theorem p_ixC {R : M → Prop} {h : HpM} {ns : List Int} {i : Nat} {v : Int} (e : ns[i]? = some v) (q : R (.int v)) : Enp (ixM (.scr ns) (.int (i : Int)) h) R := by
  refine ⟨.int v, ?_, q⟩
  show (seqR h (.scr ns)).bind (fun xs => atI xs (i : Int)) = _
  show atI (ns.map M.int) (i : Int) = _
  rw [atI_nat (show (ns.map M.int)[i]? = some (.int v) by rw [List.getElem?_map, e]; rfl)]
theorem hand_ok {ns : List Int} {i : Nat} {h : HpM} {R : M → HpM → Prop} (hi : i ≤ 20) (k : ∀ g, BoxAt g h.length 0 → R (.ref h.length) g) : Ens (mLhand [.scr ns, .int (i : Int)] h) R := by
  refine e_fun rfl ?_
  unfold bLhand
  have rest : ∀ (v : Int) ρ, ρ = [some (.scr ns), some (.int (i : Int)), some (.int v), none, none] → Ens (sSeq (sAsg (mC (.int 0)) (gNm 3))
  (sSeq (sFor (iL (mSl slM (mVar 0) oNo (oSome (mC (.int 63))))) (gNm 4) (sAsg (mOp opMod (mOp opAdd (mOp opMul (mC (.int 31)) (mVar 3)) (mVar 4)) (mC (.int 2305843009213693951))) (gNm 3)))
  (sRet (mLstH (mCons (mOp opMul (mCB bAbs (mCons (mVar 2) mNil)) (mCB bInt (mCons (mOp opGe (mCB bAbs (mCons (mVar 2) mNil)) (mOp opPow (mC (.int 10)) (mC (.int 18)))) mNil))) (mCons (mOp opAdd (mOp opAdd (mOp opMod (mOp opAdd (mVar 2) (mVar 3)) (mC (.int 2305843009213693951))) (mOp opMul (mC (.int 7919)) (mVar 1))) (mC (.int 3))) (mCons (mC (.int 0)) mNil)))))) ρ h) (FQ R) := by
    rintro v ρ rfl
    walk_at "x"
    walk_at "x"
    walk_at "x"
    walk_at "x"
    refine e_sqN ?_
    refine e_seq ?_
    refine e_for ?_
    refine e_iL ?_
    walk_at "s"
    refine e_over (fun j ρ h' => ∃ f v4, ρ = [some (.scr ns), some (.int (i : Int)), some (.int v), some (.int f), v4] ∧ h' = h) ⟨_, _, rfl, rfl⟩ ?_ ?_
    · rintro j y ρ h' hy ⟨f, v4, rfl, rfl⟩
      have hy' : ∃ z, y = .int z := by
        have := List.mem_of_getElem? hy
        unfold cutM at this
        obtain ⟨z, _, rfl⟩ := List.mem_map.1 (List.mem_of_mem_drop (List.mem_of_mem_take this))
        exact ⟨z, rfl⟩
      obtain ⟨z, rfl⟩ := hy'
      refine e_body ?_
      refine e_nm ?_
      refine e_asg ?_
      walk_at "x"
      walk_at "x"
      walk_at "x"
      walk_at "x"
      walk_at "x"
      walk_at "x"
      walk_at "x"
      walk_at "x"
      walk_at "s"
      exact ⟨_, _, rfl, rfl⟩
    · rintro ρ h' ⟨f, v4, rfl, rfl⟩
      walk_at "s"
      have hm := Int.emod_nonneg (v + f) (b := 2305843009213693951) (by decide)
      have hm2 := Int.emod_lt_of_pos (v + f) (b := 2305843009213693951) (by decide)
      refine k _ ⟨_, _, 0, at1 rfl, ?_, ?_, ?_, Nat.le_refl _⟩
      · apply Int.mul_nonneg
        · split <;> omega
        · split <;> omega
      · omega
      · omega
  walk_at "x"
  walk_at "x"
  walk_at "x"
  walk_at "x"
  refine e_sqN ?_
  refine e_seq ?_
  refine e_sif ?_
  walk_at "s"
  refine ite_b (fun q => ?_) (fun q => ?_)
  · have hi' : i < ns.length := by have := of_decide_eq_true q; omega
    refine e_asg ?_
    walk_at "x"
    walk_at "x"
    walk_at "x"
    refine p_ixC (List.getElem?_eq_getElem hi') ?_
    refine e_nm ?_
    refine e_sqN ?_
    exact rest _ _ rfl
  · refine e_next ?_
    refine e_sqN ?_
    exact rest _ _ rfl
theorem changed_ok {p : Nat} {xs : List M} (hk : Kinds xs) {row : Rw} {h : HpM} {c : Nat} {R : M → HpM → Prop} (hl : row.length ≤ 40) (hF : FB row) (hb : BoxAt h p c) (hc : c + 4 < 900000) (k : ∀ r h', BoxAt h' p (c + 4) → r.length ≤ 1000 → FB r → R (.tup (rM r)) h') : Ens (mLchanged [.ref p, .tup (rM row), .lst xs] h) R := by
  have hk2 := hk.2
  refine e_fun rfl ?_
  unfold bLchanged
  walk_at "s"
  refine take_ok hb (by decide) (by decide) (by omega) fun how g1 w0 w1 b1 => ?_
  walk_at "s"
  refine p_addL (by simp; omega) ?_
  walk_at "s"
  refine take_ok b1 (by omega) (by omega) (by omega) fun r g2 r0 r1 b2 => ?_
  refine p_any r0 (by simp; omega) fun y hy => ?_
  have hy' : ∃ q : Str, y = .str q := by
    rcases List.mem_append.1 hy with g | g
    · obtain ⟨q, _, e⟩ := hk.1 y g
      exact ⟨q, e⟩
    · simp at g; exact ⟨_, g⟩
  obtain ⟨z, rfl⟩ := hy'
  walk_at "s"
  refine take_ok b2 (by decide) (by decide) (by omega) fun r2 g3 r20 r21 b3 => ?_
  refine p_anyT (xs := [.str "forth", .str "back"]) r20 (by simpa using r21) fun y hy => ?_
  have hy' : ∃ q : Str, y = .str q ∧ (q = "forth" ∨ q = "back") := by
    simp only [List.mem_cons, List.not_mem_nil, or_false] at hy
    rcases hy with rfl | rfl
    · exact ⟨_, rfl, .inl rfl⟩
    · exact ⟨_, rfl, .inr rfl⟩
  obtain ⟨u, rfl, hu⟩ := hy'
  walk_at "s"
  refine take_ok b3 (by rw [rm_len]; omega) (by rw [rm_len]; omega) (by omega) fun at' g4 a0 a1 b4 => ?_
  walk_at "s"
  refine ite_b (fun _ => ?_) (fun _ => ?_)
  · walk_at "s"
    exact k row g4 b4 (by omega) hF
  walk_at "s"
  refine ite_b (fun _ => ?_) (fun _ => ?_)
  · walk_at "s"
    refine p_addCC (by omega) hF hF fun r hr fr => ?_
    walk_at "s"
    exact k r g4 b4 (by omega) fr
  walk_at "s"
  refine ite_b (fun _ => ?_) (fun _ => ?_)
  · walk_at "s"
    refine p_addCC (by omega) hF hF fun r hr fr => ?_
    walk_at "s"
    refine p_addRC (by omega) fr hF fun r hr fr => ?_
    walk_at "s"
    exact k r g4 b4 (by omega) fr
  walk_at "s"
  refine ite_b (fun _ => ?_) (fun _ => ?_)
  · walk_at "s"
    refine p_addCP (q := (z, u)) (by omega) hF hu fun r hr fr => ?_
    walk_at "s"
    refine p_addRC (by omega) fr hF fun r hr fr => ?_
    walk_at "s"
    exact k r g4 b4 (by omega) fr
  walk_at "s"
  refine ite_b (fun _ => ?_) (fun _ => ?_)
  · walk_at "s"
    refine p_addCP (q := (z, u)) (by omega) hF hu fun r hr fr => ?_
    walk_at "s"
    refine p_addRC (by omega) fr hF fun r hr fr => ?_
    walk_at "s"
    exact k r g4 b4 (by omega) fr
  refine e_next ?_
  refine e_sqN ?_
  refine e_ret ?_
  refine e_tupRev ?_
  refine e_var rfl ⟨_, rfl, ?_⟩
  rw [show (rM row).reverse = rM row.reverse by unfold rM; rw [List.map_reverse]]
  exact k _ g4 b4 (by simp; omega) (fun p hp => hF p (List.mem_reverse.1 hp))
theorem steps_ok : ∀ (n : Nat) (w : Wy) {h : HpM} {R : M → HpM → Prop}, deep w ≤ n → WOk w → R (.int (least w)) h → Ens (m_least_steps n [wM w] h) R
  | 0, w, h, R, hd, _, _ => by exfalso; cases w <;> simp [deep] at hd
  | n + 1, w, h, R, hd, hw, k => by
    show Ens (mFun 1 1 (b_least_steps (m_least_steps n)) _ h) R
    cases w with
    | emp =>
      show Ens (mFun 1 1 (b_least_steps (m_least_steps n)) [.tup [.str "empty"]] h) R
      refine e_fun rfl ?_
      unfold b_least_steps
      walk_at "s"
      exact k
    | step kd t =>
      show Ens (mFun 1 1 (b_least_steps (m_least_steps n)) [.tup [.str "step", oM kd, .str t]] h) R
      refine e_fun rfl ?_
      unfold b_least_steps
      walk_at "s"
      exact k
    | again w =>
      show Ens (mFun 1 1 (b_least_steps (m_least_steps n)) [.tup [.str "again", wM w]] h) R
      refine e_fun rfl ?_
      unfold b_least_steps
      walk_at "s"
      exact k
    | many w lo hi =>
      have hd' : deep w ≤ n := by simp [deep] at hd; omega
      obtain ⟨hw1, hw2, hw3⟩ := hw
      show Ens (mFun 1 1 (b_least_steps (m_least_steps n)) [.tup [.str "many", wM w, .int lo, .int hi]] h) R
      refine e_fun rfl ?_
      unfold b_least_steps
      walk_at "s"
      refine steps_ok n w hd' hw1 ?_
      walk_at "s"
      have k' : R (.int ((lo * least w : Nat) : Int)) h := k
      rw [Int.natCast_mul] at k'
      exact k'
    | thn a b =>
      have hd' : deep a ≤ n ∧ deep b ≤ n := by simp [deep] at hd; omega
      show Ens (mFun 1 1 (b_least_steps (m_least_steps n)) [.tup [.str "then", wM a, wM b]] h) R
      refine e_fun rfl ?_
      unfold b_least_steps
      walk_at "s"
      refine steps_ok n a hd'.1 hw.1 ?_
      walk_at "s"
      refine steps_ok n b hd'.2 hw.2 ?_
      walk_at "s"
      exact k
    | alt a b =>
      have hd' : deep a ≤ n ∧ deep b ≤ n := by simp [deep] at hd; omega
      show Ens (mFun 1 1 (b_least_steps (m_least_steps n)) [.tup [.str "or", wM a, wM b]] h) R
      refine e_fun rfl ?_
      unfold b_least_steps
      walk_at "s"
      refine steps_ok n a hd'.1 hw.1 ?_
      walk_at "s"
      refine steps_ok n b hd'.2 hw.2 ?_
      walk_at "s"
      have k' : R (.int ((min (least a) (least b) : Nat) : Int)) h := k
      rw [show ((min (least a) (least b) : Nat) : Int) = if (least b : Int) < least a then (least b : Int) else least a by split <;> omega] at k'
      exact k'
theorem p_in2 {a b z : Str} {h : HpM} {R : M → Prop} (q : R (.bl ([a, b].any (· == z)))) : Enp (opIn (.str z) (.tup [.str a, .str b]) h) R := p_inS (ss := [a, b]) q
local macro_rules | `(tactic| walk_at "y") => `(tactic| first | walk_at "x" | (with_reducible refine p_in2 ?_) | (with_reducible refine ite_lf (by decide +kernel) ?_) | (with_reducible refine ite_lt (by decide +kernel) ?_) | (with_reducible refine ⟨_, rfl, ?_⟩))
local macro_rules | `(tactic| walk_at "s") => `(tactic| repeat (walk_at "y"))
def hasS : Wy → Bool
  | .emp => false
  | .step _ _ => true
  | .again w => hasS w
  | .many w _ hi => decide (0 < hi) && hasS w
  | .thn a b => hasS a || hasS b
  | .alt a b => hasS a || hasS b
def isE : Wy → Bool
  | .emp => false
  | .step _ _ => false
  | .again w => hasS w
  | .many w _ hi => decide (0 < hi) && isE w
  | .thn a b => isE a || isE b
  | .alt a b => isE a || isE b
theorem has_ok : ∀ (n : Nat) (w : Wy) {h : HpM} {R : M → HpM → Prop}, deep w ≤ n → WOk w → R (.bl (hasS w)) h → Ens (m_has_steps n [wM w] h) R
  | 0, w, h, R, hd, _, _ => by exfalso; cases w <;> simp [deep] at hd
  | n + 1, w, h, R, hd, hw, k => by
    show Ens (mFun 1 1 (b_has_steps (m_has_steps n)) _ h) R
    cases w with
    | emp =>
      show Ens (mFun 1 1 (b_has_steps (m_has_steps n)) [.tup [.str "empty"]] h) R
      refine e_fun rfl ?_
      unfold b_has_steps
      walk_at "s"
      exact k
    | step kd t =>
      show Ens (mFun 1 1 (b_has_steps (m_has_steps n)) [.tup [.str "step", oM kd, .str t]] h) R
      refine e_fun rfl ?_
      unfold b_has_steps
      walk_at "s"
      exact k
    | again w =>
      have hd' : deep w ≤ n := by simp [deep] at hd; omega
      show Ens (mFun 1 1 (b_has_steps (m_has_steps n)) [.tup [.str "again", wM w]] h) R
      refine e_fun rfl ?_
      unfold b_has_steps
      walk_at "s"
      exact has_ok n w hd' hw k
    | many w lo hi =>
      have hd' : deep w ≤ n := by simp [deep] at hd; omega
      have k' : R (.bl (decide (0 < hi) && hasS w)) h := k
      show Ens (mFun 1 1 (b_has_steps (m_has_steps n)) [.tup [.str "many", wM w, .int lo, .int hi]] h) R
      refine e_fun rfl ?_
      unfold b_has_steps
      walk_at "s"
      rw [show decide ((hi : Int) > 0) = decide (0 < hi) by rw [Bool.eq_iff_iff]; simp]
      refine ite_b (fun hc => ?_) (fun hc => ?_)
      · rw [hc] at k'
        walk_at "s"
        exact has_ok n w hd' hw.1 k'
      · rw [hc] at k'
        walk_at "s"
        exact k'
    | thn a b =>
      have hd' : deep a ≤ n ∧ deep b ≤ n := by simp [deep] at hd; omega
      have k' : R (.bl (hasS a || hasS b)) h := k
      show Ens (mFun 1 1 (b_has_steps (m_has_steps n)) [.tup [.str "then", wM a, wM b]] h) R
      refine e_fun rfl ?_
      unfold b_has_steps
      walk_at "s"
      refine has_ok n a hd'.1 hw.1 ?_
      walk_at "s"
      refine ite_b (fun hc => ?_) (fun hc => ?_)
      · rw [hc] at k'
        walk_at "s"
        exact k'
      · rw [hc] at k'
        walk_at "s"
        exact has_ok n b hd'.2 hw.2 k'
    | alt a b =>
      have hd' : deep a ≤ n ∧ deep b ≤ n := by simp [deep] at hd; omega
      have k' : R (.bl (hasS a || hasS b)) h := k
      show Ens (mFun 1 1 (b_has_steps (m_has_steps n)) [.tup [.str "or", wM a, wM b]] h) R
      refine e_fun rfl ?_
      unfold b_has_steps
      walk_at "s"
      refine has_ok n a hd'.1 hw.1 ?_
      walk_at "s"
      refine ite_b (fun hc => ?_) (fun hc => ?_)
      · rw [hc] at k'
        walk_at "s"
        exact k'
      · rw [hc] at k'
        walk_at "s"
        exact has_ok n b hd'.2 hw.2 k'
theorem isE_ok : ∀ (n : Nat) (w : Wy) {h : HpM} {R : M → HpM → Prop}, deep w ≤ n → n ≤ 12 → WOk w → R (.bl (isE w)) h → Ens (m_is_endless n [wM w] h) R
  | 0, w, h, R, hd, _, _, _ => by exfalso; cases w <;> simp [deep] at hd
  | n + 1, w, h, R, hd, hn, hw, k => by
    show Ens (mFun 1 1 (b_is_endless (m_is_endless n)) _ h) R
    cases w with
    | emp =>
      show Ens (mFun 1 1 (b_is_endless (m_is_endless n)) [.tup [.str "empty"]] h) R
      refine e_fun rfl ?_
      unfold b_is_endless
      walk_at "s"
      exact k
    | step kd t =>
      show Ens (mFun 1 1 (b_is_endless (m_is_endless n)) [.tup [.str "step", oM kd, .str t]] h) R
      refine e_fun rfl ?_
      unfold b_is_endless
      walk_at "s"
      exact k
    | again w =>
      have hd' : deep w ≤ n := by simp [deep] at hd; omega
      show Ens (mFun 1 1 (b_is_endless (m_is_endless n)) [.tup [.str "again", wM w]] h) R
      refine e_fun rfl ?_
      unfold b_is_endless
      walk_at "s"
      exact has_ok 12 w (by omega) hw k
    | many w lo hi =>
      have hd' : deep w ≤ n := by simp [deep] at hd; omega
      have k' : R (.bl (decide (0 < hi) && isE w)) h := k
      show Ens (mFun 1 1 (b_is_endless (m_is_endless n)) [.tup [.str "many", wM w, .int lo, .int hi]] h) R
      refine e_fun rfl ?_
      unfold b_is_endless
      walk_at "s"
      rw [show decide ((hi : Int) > 0) = decide (0 < hi) by rw [Bool.eq_iff_iff]; simp]
      refine ite_b (fun hc => ?_) (fun hc => ?_)
      · rw [hc] at k'
        walk_at "s"
        exact isE_ok n w hd' (by omega) hw.1 k'
      · rw [hc] at k'
        walk_at "s"
        exact k'
    | thn a b =>
      have hd' : deep a ≤ n ∧ deep b ≤ n := by simp [deep] at hd; omega
      have k' : R (.bl (isE a || isE b)) h := k
      show Ens (mFun 1 1 (b_is_endless (m_is_endless n)) [.tup [.str "then", wM a, wM b]] h) R
      refine e_fun rfl ?_
      unfold b_is_endless
      walk_at "s"
      refine isE_ok n a hd'.1 (by omega) hw.1 ?_
      walk_at "s"
      refine ite_b (fun hc => ?_) (fun hc => ?_)
      · rw [hc] at k'
        walk_at "s"
        exact k'
      · rw [hc] at k'
        walk_at "s"
        exact isE_ok n b hd'.2 (by omega) hw.2 k'
    | alt a b =>
      have hd' : deep a ≤ n ∧ deep b ≤ n := by simp [deep] at hd; omega
      have k' : R (.bl (isE a || isE b)) h := k
      show Ens (mFun 1 1 (b_is_endless (m_is_endless n)) [.tup [.str "or", wM a, wM b]] h) R
      refine e_fun rfl ?_
      unfold b_is_endless
      walk_at "s"
      refine isE_ok n a hd'.1 (by omega) hw.1 ?_
      walk_at "s"
      refine ite_b (fun hc => ?_) (fun hc => ?_)
      · rw [hc] at k'
        walk_at "s"
        exact k'
      · rw [hc] at k'
        walk_at "s"
        exact isE_ok n b hd'.2 (by omega) hw.2 k'
def ot (t : Str) : Str := if t = "forth" then "back" else if t = "back" then "forth" else t
def tw : Wy → Wy
  | .emp => .emp
  | .step k t => .step k (ot t)
  | .again w => .again (tw w)
  | .many w lo hi => .many (tw w) lo hi
  | .thn a b => .thn (tw b) (tw a)
  | .alt a b => .alt (tw a) (tw b)
theorem ot_ok {t : Str} (h : t ∈ tnk) : ot t ∈ tnk ∧ ot (ot t) = t ∧ valM k_OTHER_TURN (.inr t) = some (.str (ot t)) := by
  simp only [tnk, List.mem_cons, List.not_mem_nil, or_false] at h
  rcases h with rfl | rfl | rfl
  · refine ⟨by decide +kernel, by decide +kernel, ?_⟩
    rw [show ot "forth" = "back" by decide +kernel]; rfl
  · refine ⟨by decide +kernel, by decide +kernel, ?_⟩
    rw [show ot "back" = "forth" by decide +kernel]; rfl
  · refine ⟨by decide +kernel, by decide +kernel, ?_⟩
    rw [show ot "either" = "either" by decide +kernel]; rfl
theorem tw_tw : ∀ w, WOk w → tw (tw w) = w
  | .emp, _ => rfl
  | .step k t, h => by show Wy.step k (ot (ot t)) = _; rw [(ot_ok h.2).2.1]
  | .again w, h => by show Wy.again (tw (tw w)) = _; rw [tw_tw w h]
  | .many w lo hi, h => by show Wy.many (tw (tw w)) lo hi = _; rw [tw_tw w h.1]
  | .thn a b, h => by show Wy.thn (tw (tw a)) (tw (tw b)) = _; rw [tw_tw a h.1, tw_tw b h.2]
  | .alt a b, h => by show Wy.alt (tw (tw a)) (tw (tw b)) = _; rw [tw_tw a h.1, tw_tw b h.2]
theorem tw_ok : ∀ w, WOk w → WOk (tw w)
  | .emp, _ => trivial
  | .step k t, h => ⟨h.1, (ot_ok h.2).1⟩
  | .again w, h => tw_ok w h
  | .many w lo hi, h => ⟨tw_ok w h.1, h.2⟩
  | .thn a b, h => ⟨tw_ok b h.2, tw_ok a h.1⟩
  | .alt a b, h => ⟨tw_ok a h.1, tw_ok b h.2⟩
theorem tw_deep : ∀ w, deep (tw w) = deep w
  | .emp => rfl
  | .step k t => rfl
  | .again w => by show deep (tw w) + 1 = _; rw [tw_deep w]; rfl
  | .many w lo hi => by show deep (tw w) + 1 = _; rw [tw_deep w]; rfl
  | .thn a b => by show max (deep (tw b)) (deep (tw a)) + 1 = max (deep a) (deep b) + 1; rw [tw_deep a, tw_deep b, Nat.max_comm]
  | .alt a b => by show max (deep (tw a)) (deep (tw b)) + 1 = _; rw [tw_deep a, tw_deep b]; rfl
theorem tw_least : ∀ w, least (tw w) = least w
  | .emp => rfl
  | .step k t => rfl
  | .again w => rfl
  | .many w lo hi => by show lo * least (tw w) = _; rw [tw_least w]; rfl
  | .thn a b => by show least (tw b) + least (tw a) = least a + least b; rw [tw_least a, tw_least b, Nat.add_comm]
  | .alt a b => by show min (least (tw a)) (least (tw b)) = _; rw [tw_least a, tw_least b]; rfl
theorem tw_has : ∀ w, hasS (tw w) = hasS w
  | .emp => rfl
  | .step k t => rfl
  | .again w => tw_has w
  | .many w lo hi => by show (decide (0 < hi) && hasS (tw w)) = _; rw [tw_has w]; rfl
  | .thn a b => by show (hasS (tw b) || hasS (tw a)) = (hasS a || hasS b); rw [tw_has a, tw_has b, Bool.or_comm]
  | .alt a b => by show (hasS (tw a) || hasS (tw b)) = _; rw [tw_has a, tw_has b]; rfl
theorem tw_isE : ∀ w, isE (tw w) = isE w
  | .emp => rfl
  | .step k t => rfl
  | .again w => tw_has w
  | .many w lo hi => by show (decide (0 < hi) && isE (tw w)) = _; rw [tw_isE w]; rfl
  | .thn a b => by show (isE (tw b) || isE (tw a)) = (isE a || isE b); rw [tw_isE a, tw_isE b, Bool.or_comm]
  | .alt a b => by show (isE (tw a) || isE (tw b)) = _; rw [tw_isE a, tw_isE b]; rfl
theorem cut1 {x : M} {xs : List M} : cutM (x :: xs) (some 1) none = xs := by
  rw [show (some (1 : Int)) = some ((1 : Nat) : Int) from rfl, cut_from (by simp)]; rfl
theorem cut2 {x y : M} {xs : List M} : cutM (x :: y :: xs) (some 2) none = xs := by
  rw [show (some (2 : Int)) = some ((2 : Nat) : Int) from rfl, cut_from (by simp)]; rfl
theorem turned_ok : ∀ (n : Nat) (w : Wy) {h : HpM} {R : M → HpM → Prop}, deep w ≤ n → WOk w → R (wM (tw w)) h → Ens (m_turned n [wM w] h) R
  | 0, w, h, R, hd, _, _ => by exfalso; cases w <;> simp [deep] at hd
  | n + 1, w, h, R, hd, hw, k => by
    show Ens (mFun 1 1 (b_turned (m_turned n)) _ h) R
    cases w with
    | emp =>
      show Ens (mFun 1 1 (b_turned (m_turned n)) [.tup [.str "empty"]] h) R
      refine e_fun rfl ?_
      unfold b_turned
      walk_at "s"
      exact k
    | step kd t =>
      show Ens (mFun 1 1 (b_turned (m_turned n)) [.tup [.str "step", oM kd, .str t]] h) R
      refine e_fun rfl ?_
      unfold b_turned
      walk_at "s"
      refine e_ixD ?_
      walk_at "s"
      refine ⟨_, _, rfl, (ot_ok hw.2).2.2, ?_⟩
      walk_at "s"
      exact k
    | again w =>
      have hd' : deep w ≤ n := by simp [deep] at hd; omega
      show Ens (mFun 1 1 (b_turned (m_turned n)) [.tup [.str "again", wM w]] h) R
      refine e_fun rfl ?_
      unfold b_turned
      walk_at "s"
      refine turned_ok n w hd' hw ?_
      walk_at "s"
      rw [cut2]
      refine p_addT (by simp) ?_
      exact k
    | many w lo hi =>
      have hd' : deep w ≤ n := by simp [deep] at hd; omega
      show Ens (mFun 1 1 (b_turned (m_turned n)) [.tup [.str "many", wM w, .int lo, .int hi]] h) R
      refine e_fun rfl ?_
      unfold b_turned
      walk_at "s"
      refine turned_ok n w hd' hw.1 ?_
      walk_at "s"
      rw [cut2]
      refine p_addT (by simp) ?_
      exact k
    | thn a b =>
      have hd' : deep a ≤ n ∧ deep b ≤ n := by simp [deep] at hd; omega
      show Ens (mFun 1 1 (b_turned (m_turned n)) [.tup [.str "then", wM a, wM b]] h) R
      refine e_fun rfl ?_
      unfold b_turned
      walk_at "s"
      refine turned_ok n b hd'.2 hw.2 ?_
      walk_at "s"
      refine turned_ok n a hd'.1 hw.1 ?_
      walk_at "s"
      exact k
    | alt a b =>
      have hd' : deep a ≤ n ∧ deep b ≤ n := by simp [deep] at hd; omega
      show Ens (mFun 1 1 (b_turned (m_turned n)) [.tup [.str "or", wM a, wM b]] h) R
      refine e_fun rfl ?_
      unfold b_turned
      walk_at "s"
      refine turned_ok n a hd'.1 hw.1 ?_
      walk_at "s"
      refine turned_ok n b hd'.2 hw.2 ?_
      walk_at "s"
      exact k
def flip (p : Str × Str) : Str × Str := (p.1, ot p.2)
def bk (row : Rw) : Rw := row.reverse.map flip
theorem bk_len (row : Rw) : (bk row).length = row.length := by simp [bk]
theorem fb_tnk {p : Str × Str} (h : p.2 = "forth" ∨ p.2 = "back") : p.2 ∈ tnk := by
  rcases h with h | h <;> rw [h] <;> decide +kernel
theorem flip_fb {p : Str × Str} (h : p.2 = "forth" ∨ p.2 = "back") : (flip p).2 = "forth" ∨ (flip p).2 = "back" := by
  rcases h with h | h
  · exact .inr (by show ot p.2 = _; rw [h]; decide +kernel)
  · exact .inl (by show ot p.2 = _; rw [h]; decide +kernel)
theorem bk_fb {row : Rw} (h : FB row) : FB (bk row) := fun p hp => by
  obtain ⟨q, hq, rfl⟩ := List.mem_map.1 hp
  exact flip_fb (h q (List.mem_reverse.1 hq))
theorem bk_bk {row : Rw} (h : FB row) : bk (bk row) = row := by
  unfold bk
  rw [← List.map_reverse, List.reverse_reverse, List.map_map]
  have : ∀ p ∈ row, (flip ∘ flip) p = id p := fun p hp => by
    show (p.1, ot (ot p.2)) = p
    rw [(ot_ok (fb_tnk (h p hp))).2.1]
  rw [List.map_congr_left this, List.map_id]
theorem bk_at {row : Rw} {i : Nat} {p : Str × Str} (e : row[i]? = some p) : (bk row)[row.length - 1 - i]? = some (flip p) := by
  have hi := (List.getElem?_eq_some_iff.1 e).1
  unfold bk
  rw [List.getElem?_map, List.getElem?_reverse (by omega), show row.length - 1 - (row.length - 1 - i) = i by omega, e]
  rfl
theorem okS_flip {k : Option Str} {t : Str} {p : Str × Str} (ht : t ∈ tnk) (hp : p.2 = "forth" ∨ p.2 = "back") (h : okS k t p = true) : okS k (ot t) (flip p) = true := by
  unfold okS at h ⊢
  rw [Bool.and_eq_true] at h ⊢
  refine ⟨h.1, ?_⟩
  have h2 := h.2
  simp only [tnk, List.mem_cons, List.not_mem_nil, or_false] at ht
  show [("either" : Str), ot p.2].any (· == ot t) = true
  obtain ⟨p1, p2⟩ := p
  rcases ht with rfl | rfl | rfl <;> rcases hp with hp | hp <;> (have hp : p2 = _ := hp; subst hp; dsimp only at h2 ⊢; revert h2; decide +kernel)
theorem star_cons {R : Int → Int → Prop} {i m j : Int} (r : R i m) (s : Star R m j) : Star R i j := by
  induction s with
  | refl => exact .tail (.refl _) r
  | tail s q ih => exact .tail ih q
theorem pow_cons {R : Int → Int → Prop} : ∀ (n : Nat) {i m j : Int}, R i m → Pow R n m j → Pow R (n + 1) i j
  | 0, i, m, j, r, p => by cases (show m = j from p); exact ⟨i, rfl, r⟩
  | n + 1, i, m, j, r, ⟨q, p, s⟩ => ⟨q, pow_cons n r p, s⟩
theorem rel_bk {row : Rw} (hF : FB row) : ∀ (w : Wy) {i j : Int}, WOk w → Rel row w i j → Rel (bk row) (tw w) (row.length - j) (row.length - i)
  | .emp, i, j, _, h => by cases (show i = j from h); rfl
  | .step k t, i, j, hw, ⟨p, h0, e, ok, ej⟩ => by
    have hi := (List.getElem?_eq_some_iff.1 e).1
    have hp : p ∈ row := List.mem_of_getElem? e
    refine ⟨flip p, by omega, ?_, okS_flip hw.2 (hF p hp) ok, by omega⟩
    rw [show ((row.length : Int) - j).toNat = row.length - 1 - i.toNat by omega]
    exact bk_at e
  | .again w, i, j, hw, h => by
    have h' : Star (Rel row w) i j := h
    show Star (Rel (bk row) (tw w)) _ _
    clear h
    induction h' with
    | refl => exact .refl _
    | tail s r ih => exact star_cons (rel_bk hF w hw r) ih
  | .many w lo hi, i, j, hw, ⟨n, h1, h2, h3⟩ => by
    refine ⟨n, h1, h2, ?_⟩
    have key : ∀ (n : Nat) {i j : Int}, Pow (Rel row w) n i j → Pow (Rel (bk row) (tw w)) n (row.length - j) (row.length - i) := by
      intro n
      induction n with
      | zero => intro i j h; cases (show i = j from h); rfl
      | succ n ih =>
        rintro i j ⟨m, h1, h2⟩
        exact pow_cons n (rel_bk hF w hw.1 h2) (ih h1)
    exact key n h3
  | .thn a b, i, j, hw, ⟨m, h1, h2⟩ => ⟨row.length - m, rel_bk hF b hw.2 h2, rel_bk hF a hw.1 h1⟩
  | .alt a b, i, j, hw, h => h.elim (fun h => .inl (rel_bk hF a hw.1 h)) (fun h => .inr (rel_bk hF b hw.2 h))
theorem T_bk {row : Rw} {w : Wy} (hF : FB row) (hw : WOk w) : T (bk row) (tw w) = T row w := by
  unfold T
  classical
  rw [Bool.eq_iff_iff, decide_eq_true_eq, decide_eq_true_eq, bk_len]
  constructor
  · intro h
    have := rel_bk (bk_fb hF) (tw w) (tw_ok w hw) h
    rw [bk_bk hF, tw_tw w hw, bk_len] at this
    simpa using this
  · intro h
    have := rel_bk hF w hw h
    simpa using this
local macro_rules | `(tactic| walk_at "n") => `(tactic| repeat (first | (with_reducible refine e_oInt ?_) | (with_reducible refine p_t0 ?_) | (with_reducible refine p_t1 ?_) | (with_reducible refine p_t2 ?_) | walk_at "e" | (with_reducible refine ⟨_, rfl, ?_⟩) | (with_reducible refine ite_lf (by decide +kernel) ?_) | (with_reducible refine ite_lt (by decide +kernel) ?_)))
def lowC (c : Nat) : Bool := decide (97 ≤ c) && decide (c ≤ 122)
def Nm (z : Str) : Prop := 1 ≤ z.length ∧ z.length ≤ 8 ∧ z.cps.toList.all lowC = true
theorem isname_ok {z : Str} {h : HpM} {R : M → HpM → Prop} (hz : Nm z) (k : R (.bl true) h) : Ens (m_is_name [.str z] h) R := by
  obtain ⟨h1, h8, hl⟩ := hz
  refine e_fun rfl ?_
  unfold b_is_name
  walk_at "n"
  refine p_lenS (by omega) ?_
  walk_at "n"
  refine ite_b (fun _ => ?_) (fun q => absurd q (by simp; omega))
  walk_at "n"
  refine p_leI ?_
  walk_at "n"
  refine ite_b (fun q => absurd q (by simp; omega)) (fun _ => ?_)
  walk_at "n"
  refine e_iS ?_
  walk_at "n"
  have hlen : (z.cps.toList.map fun c => M.str ⟨#[c]⟩).length ≤ 8 := by simpa [Str.length] using h8
  refine ⟨Nat.le_trans hlen (by decide), ?_⟩
  refine e_filt (p := fun _ => true) (f := fun _ => .bl true) (fun x hx => ?_) ?_
  · obtain ⟨c, hc, rfl⟩ := List.mem_map.mp hx
    have hcl := List.all_eq_true.mp hl c hc
    unfold lowC at hcl
    simp only [Bool.and_eq_true, decide_eq_true_eq] at hcl
    have ea : ("a" : Str).cps.toList = [97] := by decide +kernel
    have ez : ("z" : Str).cps.toList = [122] := by decide +kernel
    walk_at "n"
    refine ⟨rfl, ?_⟩
    walk_at "n"
    refine ⟨rfl, rfl, fun _ => ?_⟩
    walk_at "n"
    refine p_leS ?_
    rw [ea, show (!decide (([c] : List Nat) < [97])) = true by rw [Bool.not_eq_true', decide_eq_false_iff_not, List.cons_lt_cons_iff]; simp; omega]
    walk_at "n"
    refine p_leS ?_
    rw [ez, show (!decide (([122] : List Nat) < [c])) = true by rw [Bool.not_eq_true', decide_eq_false_iff_not, List.cons_lt_cons_iff]; simp; omega]
    exact ⟨rfl, rfl⟩
  · rw [List.filter_eq_self.mpr (fun _ _ => rfl)]
    have e : ((z.cps.toList.map fun c => M.str ⟨#[c]⟩).map fun _ => M.bl true) = (z.cps.toList.map fun _ => true).map M.bl := by rw [List.map_map, List.map_map]; rfl
    rw [e]
    walk_at "n"
    refine p_all ?_
    walk_at "n"
    rw [show (z.cps.toList.map fun _ => true).all id = true by simp]
    exact k
theorem e_chain3 {f g g' : M → M → HpM → Option M} {ma mb mc md : FE} {ρ : EnvM} {h : HpM} {R : M → HpM → Prop} (q : Ens (ma ρ h) fun x h1 => Ens (mb ρ h1) fun y h2 => Enp (f x y h2) fun z => EB z fun k => if k = true then Ens (mc ρ h2) fun w h3 => Enp (g y w h3) fun z => EB z fun k => if k = true then Ens (md ρ h3) fun u h4 => Enp (g' w u h4) fun d => R d h4 else R (.bl false) h3 else R (.bl false) h2) : Ens (mChain3 f g g' ma mb mc md ρ h) R :=
  .bnd (q.mono fun x h1 q => .bnd (q.mono fun y h2 q => by
    obtain ⟨z, e, k, rfl, q⟩ := q
    rw [e, Option.bind_some]
    cases k with
    | false => exact .ret q
    | true =>
      refine .bnd (q.mono fun w h3 q => ?_)
      obtain ⟨z, e, k, rfl, q⟩ := q
      rw [e, Option.bind_some]
      cases k with
      | false => exact .ret q
      | true => exact .bnd (q.mono fun u h4 q => q.map)))
theorem kns_nm {z : Str} (h : z ∈ kns) : Nm z := by
  have : kns.all (fun z => decide (1 ≤ z.length) && (decide (z.length ≤ 8) && z.cps.toList.all lowC)) = true := by decide +kernel
  have h2 := List.all_eq_true.1 this z h
  simp only [Bool.and_eq_true, decide_eq_true_eq] at h2
  exact h2
theorem p_sl1 {x : M} {xs : List M} {h : HpM} {R : M → Prop} (q : R (.tup xs)) : Enp (slM (.tup (x :: xs)) (some 1) none h) R := p_slT (by rw [cut1]; exact q)
theorem p_in3 {a b c z : Str} {h : HpM} {R : M → Prop} (q : R (.bl ([a, b, c].any (· == z)))) : Enp (opIn (.str z) (.tup [.str a, .str b, .str c]) h) R := p_inS (ss := [a, b, c]) q
local macro_rules | `(tactic| walk_at "r") => `(tactic| repeat (first | (with_reducible refine p_sl1 ?_) | (with_reducible refine p_in3 ?_) | walk_at "y" | ((with_reducible refine ite_lf ?hh ?_); (case hh => rfl)) | ((with_reducible refine ite_lt ?hh ?_); (case hh => rfl))))
theorem num_ok {i : Nat} {h : HpM} {R : M → HpM → Prop} (k : R (.bl true) h) : Ens (m_is_number [.int i] h) R := by
  refine e_fun rfl ?_
  unfold b_is_number
  walk_at "s"
  exact k
theorem times_ok {lo hi : Nat} {h : HpM} {R : M → HpM → Prop} (h1 : lo ≤ hi) (h2 : hi ≤ 6) (k : R (.bl true) h) : Ens (m_are_times [.int lo, .int hi] h) R := by
  refine e_fun rfl ?_
  unfold b_are_times
  walk_at "s"
  refine num_ok ?_
  walk_at "s"
  refine num_ok ?_
  walk_at "s"
  refine e_chain3 ?_
  walk_at "s"
  refine ite_lt (decide_eq_true (by omega)) ?_
  walk_at "s"
  refine ite_lt (decide_eq_true (by omega)) ?_
  simp only [k_MOST_TIMES]
  walk_at "s"
  rw [decide_eq_true (by omega : (hi : Int) ≤ 6)]
  exact k
theorem isway_ok : ∀ (n : Nat) (w : Wy) {h : HpM} {R : M → HpM → Prop}, deep w ≤ n → WOk w → R (.bl true) h → Ens (m_is_way n [wM w] h) R
  | 0, w, h, R, hd, _, _ => by exfalso; cases w <;> simp [deep] at hd
  | n + 1, w, h, R, hd, hw, k => by
    show Ens (mFun 1 2 (b_is_way (m_is_way n)) _ h) R
    cases w with
    | emp =>
      show Ens (mFun 1 2 (b_is_way (m_is_way n)) [.tup [.str "empty"]] h) R
      refine e_fun rfl ?_
      unfold b_is_way
      walk_at "r"
      exact k
    | step kd t =>
      show Ens (mFun 1 2 (b_is_way (m_is_way n)) [.tup [.str "step", oM kd, .str t]] h) R
      have fin : [("forth" : Str), "back", "either"].any (· == t) = true := by
        have : tnk.all (fun t => [("forth" : Str), "back", "either"].any (· == t)) = true := by decide +kernel
        exact List.all_eq_true.1 this t hw.2
      refine e_fun rfl ?_
      unfold b_is_way
      cases kd with
      | none =>
        walk_at "r"
        rw [fin]
        exact k
      | some z =>
        walk_at "r"
        refine isname_ok (kns_nm (hw.1 z rfl)) ?_
        walk_at "r"
        rw [fin]
        exact k
    | again w =>
      have hd' : deep w ≤ n := by simp [deep] at hd; omega
      show Ens (mFun 1 2 (b_is_way (m_is_way n)) [.tup [.str "again", wM w]] h) R
      refine e_fun rfl ?_
      unfold b_is_way
      walk_at "r"
      exact isway_ok n w hd' hw k
    | many w lo hi =>
      have hd' : deep w ≤ n := by simp [deep] at hd; omega
      show Ens (mFun 1 2 (b_is_way (m_is_way n)) [.tup [.str "many", wM w, .int lo, .int hi]] h) R
      refine e_fun rfl ?_
      unfold b_is_way
      walk_at "r"
      refine times_ok hw.2.1 hw.2.2 ?_
      walk_at "r"
      exact isway_ok n w hd' hw.1 k
    | thn a b =>
      have hd' : deep a ≤ n ∧ deep b ≤ n := by simp [deep] at hd; omega
      show Ens (mFun 1 2 (b_is_way (m_is_way n)) [.tup [.str "then", wM a, wM b]] h) R
      refine e_fun rfl ?_
      unfold b_is_way
      walk_at "r"
      refine isway_ok n a hd'.1 hw.1 ?_
      walk_at "r"
      exact isway_ok n b hd'.2 hw.2 k
    | alt a b =>
      have hd' : deep a ≤ n ∧ deep b ≤ n := by simp [deep] at hd; omega
      show Ens (mFun 1 2 (b_is_way (m_is_way n)) [.tup [.str "or", wM a, wM b]] h) R
      refine e_fun rfl ?_
      unfold b_is_way
      walk_at "r"
      refine isway_ok n a hd'.1 hw.1 ?_
      walk_at "r"
      exact isway_ok n b hd'.2 hw.2 k
def flipM : M → M
  | .tup [.str a, .str b] => .tup [.str a, .str (ot b)]
  | x => x
theorem back_ok {row : Rw} {h : HpM} {R : M → HpM → Prop} (hF : FB row) (hl : row.length ≤ 40) (k : R (.tup (rM (bk row))) h) : Ens (mLback [.tup (rM row)] h) R := by
  refine e_fun rfl ?_
  unfold bLback
  refine e_ret ?_
  refine e_cb ?_
  refine e_cons ?_
  refine e_comp ?_
  refine e_iRv ?_
  refine e_var rfl ⟨_, rfl, ?_⟩
  refine ⟨by rw [List.length_reverse, rm_len]; omega, ?_⟩
  refine e_filt (fun _ => true) flipM (fun x hx => ?_) ?_
  · obtain ⟨p, hp, rfl⟩ := List.mem_map.1 (List.mem_reverse.1 hx)
    obtain ⟨a, b⟩ := p
    have hb := hF _ hp
    show Ens (gTp 2 (gsCons (gNm 0) (gsCons (gNm 1) gsNil)) (.tup [.str a, .str b]) _ h) _
    walk_at "s"
    refine ⟨rfl, ?_⟩
    refine e_tTrue ⟨rfl, rfl, fun _ => ?_⟩
    walk_at "s"
    refine e_dsp ?_
    refine e_cons ?_
    refine e_c ?_
    refine e_cons ?_
    refine e_c ?_
    refine e_cons ?_
    refine e_c ?_
    refine e_cons ?_
    refine e_c ?_
    refine e_nil ?_
    refine ⟨_, rfl, by decide, ?_⟩
    refine e_var rfl ?_
    refine p_ixD (v := .str (ot b)) rfl rfl ?_ ?_
    · have hb' : b = "forth" ∨ b = "back" := hb
      rcases hb' with rfl | rfl
      · rw [show ot "forth" = "back" by decide +kernel]; rfl
      · rw [show ot "back" = "forth" by decide +kernel]; rfl
    · walk_at "s"
      exact ⟨rfl, rfl⟩
  · refine e_nil ?_
    have e : (((rM row).reverse.filter fun _ => true).map flipM) = rM (bk row) := by
      rw [List.filter_eq_self.mpr (fun _ _ => rfl)]
      unfold rM bk
      rw [← List.map_reverse, List.map_map, List.map_map]
      rfl
    rw [e]
    exact ⟨_, rfl, k⟩
theorem right_ok {w : Wy} {row : Rw} {h : HpM} {R : M → HpM → Prop} (hd : deep w ≤ 12) (hw : WOk w) (hl : row.length ≤ 40) (hF : FB row) (k : R (.bl true) h) : Ens (mLright [wM w, wM (tw w), wM w, .tup (rM row)] h) R := by
  refine e_fun rfl ?_
  unfold bLright
  refine e_seq ?_
  refine e_asg ?_
  refine e_call ?_
  refine e_cons ?_
  refine e_var rfl ?_
  refine e_cons ?_
  refine e_var rfl ?_
  refine e_nil ?_
  refine ltells_ok hd hw (.inl rfl) hl ?_
  refine e_nm ?_
  refine e_sqN ?_
  refine e_ret ?_
  refine e_and ?_
  refine e_op ?_
  refine e_call ?_
  refine e_cons ?_
  refine e_var rfl ?_
  refine e_cons ?_
  refine e_call ?_
  refine e_cons ?_
  refine e_var rfl ?_
  refine e_nil ?_
  refine back_ok hF hl ?_
  refine e_nil ?_
  refine tells_ok (by rw [tw_deep]; exact hd) (tw_ok w hw) (.inl rfl) (by rw [bk_len]; exact hl) ?_
  rw [T_bk hF hw]
  refine e_var rfl ?_
  refine p_eqB ?_
  refine e_eb ?_
  refine ite_lt (beq_self_eq_true _) ?_
  refine e_op ?_
  refine e_call ?_
  refine e_cons ?_
  refine e_var rfl ?_
  refine e_cons ?_
  refine e_var rfl ?_
  refine e_nil ?_
  refine tells_ok hd hw (.inl rfl) hl ?_
  refine e_var rfl ?_
  refine p_eqB ?_
  rw [beq_self_eq_true]
  exact k
theorem law_true (ns : List Int) (hl : ns.length ≤ 63) : ∃ h', m_law [.scr ns] [] = some (.bl true, h') := by
  suffices z : Ens (m_law [.scr ns] []) fun d _ => d = .bl true by
    obtain ⟨d, h', e, rfl⟩ := z
    exact ⟨h', e⟩
  refine e_fun rfl ?_
  unfold b_law
  walk_at "es"
  refine e_iR1 ?_
  walk_at "es"
  refine ⟨_, rfl, ⟨by split <;> omega, by split <;> omega⟩, ?_⟩
  refine e_over (fun i ρ h' => ∃ v1 v2 v3 v4 v5 v6 v7 v8, ρ = [some (.scr ns), v1, v2, v3, v4, v5, v6, v7, v8]) ⟨_, _, _, _, _, _, _, _, rfl⟩ ?_ ?_
  · rintro i x ρ h hx ⟨v1, v2, v3, v4, v5, v6, v7, v8, rfl⟩
    have hi : i ≤ 20 := by
      have := (List.getElem?_eq_some_iff.mp hx).1
      simp at this
      split at this <;> omega
    obtain rfl : x = .int (i : Int) := by
      rw [List.getElem?_map] at hx
      obtain ⟨j, hj, rfl⟩ := Option.map_eq_some_iff.mp hx
      obtain ⟨_, ej⟩ := List.getElem?_eq_some_iff.mp hj
      rw [List.getElem_range] at ej
      rw [ej]
    refine e_body ?_
    refine e_nm ?_
    refine e_seq ?_
    refine e_asg ?_
    refine e_call ?_
    refine e_cons ?_
    refine e_var rfl ?_
    refine e_cons ?_
    refine e_var rfl ?_
    refine e_nil ?_
    refine hand_ok hi fun g0 b0 => ?_
    walk_at "s"
    refine kinds_ok b0 (by decide) fun xs g1 hk b1 => ?_
    walk_at "s"
    refine take_ok b1 (by decide) (by decide) (by decide) fun r g2 r0 r1 b2 => ?_
    walk_at "s"
    refine p_anyT (xs := [.int 8, .int 12]) (by split <;> omega) (by show _ < (2 : Int); split <;> omega) fun y hy => ?_
    have hy' : ∃ z : Nat, y = .int (z : Int) ∧ 1 ≤ z ∧ z ≤ 12 := by
      simp only [List.mem_cons, List.not_mem_nil, or_false] at hy
      rcases hy with rfl | rfl
      · exact ⟨8, rfl, by decide, by decide⟩
      · exact ⟨12, rfl, by decide, by decide⟩
    obtain ⟨room, rfl, z1, z2⟩ := hy'
    walk_at "s"
    refine way_ok hk 12 room 2 z1 (by omega) (by decide) b2 (by omega) fun w g3 b3 hw hd hf => ?_
    have hsz : sz w ≤ 1728 := by unfold Fits at hf; simp at hf; omega
    have hd12 : deep w ≤ 12 := by omega
    have hwt := tw_ok w hw
    have hdt : deep (tw w) ≤ 12 := by rw [tw_deep]; exact hd12
    walk_at "s"
    refine turned_ok 12 w hd12 hw ?_
    walk_at "s"
    refine turned_ok 12 (tw w) hdt hwt ?_
    rw [tw_tw w hw]
    walk_at "s"
    refine isway_ok 12 (tw w) hdt hwt ?_
    walk_at "s"
    refine isway_ok 12 w hd12 hw ?_
    walk_at "s"
    refine right_ok (row := []) hd12 hw (by decide) (fun p hp => by cases hp) ?_
    walk_at "s"
    refine steps_ok 12 (tw w) hdt hwt ?_
    walk_at "s"
    refine steps_ok 12 w hd12 hw ?_
    rw [tw_least]
    walk_at "s"
    refine ite_lf (by simp) ?_
    walk_at "s"
    refine isE_ok 12 (tw w) hdt (by omega) hwt ?_
    walk_at "s"
    refine isE_ok 12 w hd12 (by omega) hw ?_
    rw [tw_isE]
    walk_at "s"
    refine ite_lf (by simp) ?_
    refine e_next ?_
    refine e_sqN ?_
    refine e_for ?_
    refine e_iR1 ?_
    refine e_cons ?_
    refine e_c ?_
    refine e_nil ?_
    refine ⟨4, rfl, by omega, ?_⟩
    refine e_over (fun j ρ h' => ∃ v7 v8, ρ = [some (.scr ns), some (.int (i : Int)), some (.ref h.length), some (.lst xs), some (wM w), some (wM (tw w)), some (wM w), v7, v8] ∧ BoxAt h' h.length (1000 + j * 2000)) ⟨_, _, rfl, b3.mono (by omega)⟩ ?_ ?_
    · rintro j y ρ h' hy ⟨v7, v8, rfl, bj⟩
      have hj : j < 4 := by
        have := (List.getElem?_eq_some_iff.1 hy).1
        simpa using this
      refine e_body ?_
      refine e_nm ?_
      refine e_seq ?_
      refine e_asg ?_
      refine e_sl ?_
      refine e_call ?_
      refine e_cons ?_
      refine e_var rfl ?_
      refine e_cons ?_
      refine e_var rfl ?_
      refine e_cons ?_
      refine e_var rfl ?_
      refine e_nil ?_
      refine row_ok hk 12 w (by omega) hw (by omega) bj (by omega) fun row g4 b4 l4 _ F4 => ?_
      refine e_oNo ?_
      refine e_oInt ?_
      refine p_slT ?_
      obtain ⟨row, er, lr, fr⟩ := cut40 row
      rw [er]
      refine e_nm ?_
      refine e_sqN ?_
      refine e_seq ?_
      refine e_sif ?_
      refine e_tNot ?_
      refine e_tV ?_
      refine e_call ?_
      refine e_cons ?_
      refine e_var rfl ?_
      refine e_cons ?_
      refine e_var rfl ?_
      refine e_cons ?_
      refine e_var rfl ?_
      refine e_cons ?_
      refine e_var rfl ?_
      refine e_nil ?_
      refine right_ok hd12 hw lr (fr F4) ?_
      refine e_eb ?_
      refine ite_nT ?_
      refine e_next ?_
      refine e_sqN ?_
      refine e_sif ?_
      refine e_tNot ?_
      refine e_tV ?_
      refine e_call ?_
      refine e_cons ?_
      refine e_var rfl ?_
      refine e_cons ?_
      refine e_var rfl ?_
      refine e_cons ?_
      refine e_var rfl ?_
      refine e_cons ?_
      refine e_sl ?_
      refine e_call ?_
      refine e_cons ?_
      refine e_var rfl ?_
      refine e_cons ?_
      refine e_var rfl ?_
      refine e_cons ?_
      refine e_var rfl ?_
      refine e_nil ?_
      refine changed_ok hk lr (fr F4) b4 (by omega) fun r5 g5 b5 l5 f5 => ?_
      refine e_oNo ?_
      refine e_oInt ?_
      refine p_slT ?_
      obtain ⟨r5, er5, lr5, fr5⟩ := cut40 r5
      rw [er5]
      refine e_nil ?_
      refine right_ok hd12 hw lr5 (fr5 f5) ?_
      refine e_eb ?_
      refine ite_nT ?_
      refine e_next ?_
      exact ⟨_, _, rfl, b5.mono (by omega)⟩
    · rintro ρ h' ⟨v7, v8, rfl, _⟩
      exact ⟨_, _, _, _, _, _, _, _, rfl⟩
  · rintro ρ h' ⟨v1, v2, v3, v4, v5, v6, v7, v8, rfl⟩
    walk_at "es"
    rfl
end K17
set_option maxHeartbeats 8000000
namespace K17
open PySem L2
section
variable {P : Program} {w : World} {K : PySem.W.Frag} {mg : Str → Option Value} {base : Heap} {t : Adr}
theorem ok_law0 (T : Txt P w K mg t) : FnOk P w K mg base CX0 28 t.f_law t.d_law ["_law_script"] (spLaw K) := (ok_law T).imp fun vs H Q E q => spLaw_spM law_true q
end
theorem txt_mk (P : Program) (w : World) {K : PySem.W.Frag} {h : Heap} {mg : Str → Option Value} {f0 f1 f2 f3 f4 f5 f6 f7 f8 f9 f10 f11 f12 f13 f14 f15 f16 f17 f18 f19 f20 f21 f22 f23 f24 f25 f26 f27 : Addr} (X : K.In h) (G : h.Ns mainGlobals mg)
   {od0 an0 od1 an1 od2 an2 od3 an3 od4 an4 od5 an5 od6 an6 od7 an7 od8 an8 od9 an9 od10 an10 od11 an11 od12 an12 od13 an13 od14 an14 od15 an15 od16 an16 od17 an17 od18 an18 od19 an19 od20 an20 od21 an21 od22 an22 od23 an23 od24 an24 od25 an25 od26 an26 od27 an27 : Option Addr} {sl0 sl1 sl2 sl3 sl4 sl5 sl6 sl7 sl8 sl9 sl10 sl11 sl12 sl13 sl14 sl15 sl16 sl17 sl18 sl19 sl20 sl21 sl22 sl23 sl24 sl25 sl26 sl27 : Array (Option Value)} {oc0 kV0 dc0 pm0 cd0 ct0 oc1 kV1 dc1 pm1 cd1 ct1 oc2 kV2 dc2 pm2 cd2 ct2 oc3 kV3 dc3 pm3 cd3 ct3 oc4 kV4 dc4 pm4 cd4 ct4 oc5 kV5 dc5 pm5 cd5 ct5 oc6 kV6 dc6 pm6 cd6 ct6 oc7 kV7 dc7 pm7 cd7 ct7 oc8 kV8 dc8 pm8 cd8 ct8 oc9 kV9 dc9 pm9 cd9 ct9 oc10 kV10 dc10 pm10 cd10 ct10 oc11 kV11 dc11 pm11 cd11 ct11 oc12 kV12 dc12 pm12 cd12 ct12 oc13 kV13 dc13 pm13 cd13 ct13 oc14 kV14 dc14 pm14 cd14 ct14 oc15 kV15 dc15 pm15 cd15 ct15 oc16 kV16 dc16 pm16 cd16 ct16 oc17 kV17 dc17 pm17 cd17 ct17 oc18 kV18 dc18 pm18 cd18 ct18 oc19 kV19 dc19 pm19 cd19 ct19 oc20 kV20 dc20 pm20 cd20 ct20 oc21 kV21 dc21 pm21 cd21 ct21 oc22 kV22 dc22 pm22 cd22 ct22 oc23 kV23 dc23 pm23 cd23 ct23 oc24 kV24 dc24 pm24 cd24 ct24 oc25 kV25 dc25 pm25 cd25 ct25 oc26 kV26 dc26 pm26 cd26 ct26 oc27 kV27 dc27 pm27 cd27 ct27 : Value}
   (a0 : PySem.W.nsIn K mainGlobals "is_name" = some (some (.ref f0))) (l0 : K.lookup f0 = some ⟨oc0, od0, .func (PySem.W.fnOf "is_name" "is_name" (defArgs s_is_name) (defBody s_is_name) (defScope s_is_name) .none kV0 dc0 pm0 an0 cd0 ct0), sl0⟩) (c0 : PySem.W.codeIn K cd0 "is_name" = true) (k0 : PySem.W.keepIn K (.ref f0) = true)
   (a1 : PySem.W.nsIn K mainGlobals "is_number" = some (some (.ref f1))) (l1 : K.lookup f1 = some ⟨oc1, od1, .func (PySem.W.fnOf "is_number" "is_number" (defArgs s_is_number) (defBody s_is_number) (defScope s_is_number) .none kV1 dc1 pm1 an1 cd1 ct1), sl1⟩) (c1 : PySem.W.codeIn K cd1 "is_number" = true) (k1 : PySem.W.keepIn K (.ref f1) = true)
   (a2 : PySem.W.nsIn K mainGlobals "is_way" = some (some (.ref f2))) (l2 : K.lookup f2 = some ⟨oc2, od2, .func (PySem.W.fnOf "is_way" "is_way" (defArgs s_is_way) (defBody s_is_way) (defScope s_is_way) .none kV2 dc2 pm2 an2 cd2 ct2), sl2⟩) (c2 : PySem.W.codeIn K cd2 "is_way" = true) (k2 : PySem.W.keepIn K (.ref f2) = true)
   (a3 : PySem.W.nsIn K mainGlobals "are_times" = some (some (.ref f3))) (l3 : K.lookup f3 = some ⟨oc3, od3, .func (PySem.W.fnOf "are_times" "are_times" (defArgs s_are_times) (defBody s_are_times) (defScope s_are_times) .none kV3 dc3 pm3 an3 cd3 ct3), sl3⟩) (c3 : PySem.W.codeIn K cd3 "are_times" = true) (k3 : PySem.W.keepIn K (.ref f3) = true)
   (a4 : PySem.W.nsIn K mainGlobals "tells" = some (some (.ref f4))) (l4 : K.lookup f4 = some ⟨oc4, od4, .func (PySem.W.fnOf "tells" "tells" (defArgs s_tells) (defBody s_tells) (defScope s_tells) .none kV4 dc4 pm4 an4 cd4 ct4), sl4⟩) (c4 : PySem.W.codeIn K cd4 "tells" = true) (k4 : PySem.W.keepIn K (.ref f4) = true)
   (a5 : PySem.W.nsIn K mainGlobals "ends" = some (some (.ref f5))) (l5 : K.lookup f5 = some ⟨oc5, od5, .func (PySem.W.fnOf "ends" "ends" (defArgs s_ends) (defBody s_ends) (defScope s_ends) .none kV5 dc5 pm5 an5 cd5 ct5), sl5⟩) (c5 : PySem.W.codeIn K cd5 "ends" = true) (k5 : PySem.W.keepIn K (.ref f5) = true)
   (a6 : PySem.W.nsIn K mainGlobals "ends_again" = some (some (.ref f6))) (l6 : K.lookup f6 = some ⟨oc6, od6, .func (PySem.W.fnOf "ends_again" "ends_again" (defArgs s_ends_again) (defBody s_ends_again) (defScope s_ends_again) .none kV6 dc6 pm6 an6 cd6 ct6), sl6⟩) (c6 : PySem.W.codeIn K cd6 "ends_again" = true) (k6 : PySem.W.keepIn K (.ref f6) = true)
   (a7 : PySem.W.nsIn K mainGlobals "ends_many" = some (some (.ref f7))) (l7 : K.lookup f7 = some ⟨oc7, od7, .func (PySem.W.fnOf "ends_many" "ends_many" (defArgs s_ends_many) (defBody s_ends_many) (defScope s_ends_many) .none kV7 dc7 pm7 an7 cd7 ct7), sl7⟩) (c7 : PySem.W.codeIn K cd7 "ends_many" = true) (k7 : PySem.W.keepIn K (.ref f7) = true)
   (a8 : PySem.W.nsIn K mainGlobals "merged" = some (some (.ref f8))) (l8 : K.lookup f8 = some ⟨oc8, od8, .func (PySem.W.fnOf "merged" "merged" (defArgs s_merged) (defBody s_merged) (defScope s_merged) .none kV8 dc8 pm8 an8 cd8 ct8), sl8⟩) (c8 : PySem.W.codeIn K cd8 "merged" = true) (k8 : PySem.W.keepIn K (.ref f8) = true)
   (a9 : PySem.W.nsIn K mainGlobals "is_step_of" = some (some (.ref f9))) (l9 : K.lookup f9 = some ⟨oc9, od9, .func (PySem.W.fnOf "is_step_of" "is_step_of" (defArgs s_is_step_of) (defBody s_is_step_of) (defScope s_is_step_of) .none kV9 dc9 pm9 an9 cd9 ct9), sl9⟩) (c9 : PySem.W.codeIn K cd9 "is_step_of" = true) (k9 : PySem.W.keepIn K (.ref f9) = true)
   (a10 : PySem.W.nsIn K mainGlobals "least_steps" = some (some (.ref f10))) (l10 : K.lookup f10 = some ⟨oc10, od10, .func (PySem.W.fnOf "least_steps" "least_steps" (defArgs s_least_steps) (defBody s_least_steps) (defScope s_least_steps) .none kV10 dc10 pm10 an10 cd10 ct10), sl10⟩) (c10 : PySem.W.codeIn K cd10 "least_steps" = true) (k10 : PySem.W.keepIn K (.ref f10) = true)
   (a11 : PySem.W.nsIn K mainGlobals "turned" = some (some (.ref f11))) (l11 : K.lookup f11 = some ⟨oc11, od11, .func (PySem.W.fnOf "turned" "turned" (defArgs s_turned) (defBody s_turned) (defScope s_turned) .none kV11 dc11 pm11 an11 cd11 ct11), sl11⟩) (c11 : PySem.W.codeIn K cd11 "turned" = true) (k11 : PySem.W.keepIn K (.ref f11) = true)
   (a12 : PySem.W.nsIn K mainGlobals "is_endless" = some (some (.ref f12))) (l12 : K.lookup f12 = some ⟨oc12, od12, .func (PySem.W.fnOf "is_endless" "is_endless" (defArgs s_is_endless) (defBody s_is_endless) (defScope s_is_endless) .none kV12 dc12 pm12 an12 cd12 ct12), sl12⟩) (c12 : PySem.W.codeIn K cd12 "is_endless" = true) (k12 : PySem.W.keepIn K (.ref f12) = true)
   (a13 : PySem.W.nsIn K mainGlobals "has_steps" = some (some (.ref f13))) (l13 : K.lookup f13 = some ⟨oc13, od13, .func (PySem.W.fnOf "has_steps" "has_steps" (defArgs s_has_steps) (defBody s_has_steps) (defScope s_has_steps) .none kV13 dc13 pm13 an13 cd13 ct13), sl13⟩) (c13 : PySem.W.codeIn K cd13 "has_steps" = true) (k13 : PySem.W.keepIn K (.ref f13) = true)
   (a14 : PySem.W.nsIn K mainGlobals "_law_hand" = some (some (.ref f14))) (l14 : K.lookup f14 = some ⟨oc14, od14, .func (PySem.W.fnOf "_law_hand" "_law_hand" (defArgs sLhand) (defBody sLhand) (defScope sLhand) .none kV14 dc14 pm14 an14 cd14 ct14), sl14⟩) (c14 : PySem.W.codeIn K cd14 "_law_hand" = true) (k14 : PySem.W.keepIn K (.ref f14) = true)
   (a15 : PySem.W.nsIn K mainGlobals "_law_take" = some (some (.ref f15))) (l15 : K.lookup f15 = some ⟨oc15, od15, .func (PySem.W.fnOf "_law_take" "_law_take" (defArgs sLtake) (defBody sLtake) (defScope sLtake) .none kV15 dc15 pm15 an15 cd15 ct15), sl15⟩) (c15 : PySem.W.codeIn K cd15 "_law_take" = true) (k15 : PySem.W.keepIn K (.ref f15) = true)
   (a16 : PySem.W.nsIn K mainGlobals "_law_kinds" = some (some (.ref f16))) (l16 : K.lookup f16 = some ⟨oc16, od16, .func (PySem.W.fnOf "_law_kinds" "_law_kinds" (defArgs sLkinds) (defBody sLkinds) (defScope sLkinds) .none kV16 dc16 pm16 an16 cd16 ct16), sl16⟩) (c16 : PySem.W.codeIn K cd16 "_law_kinds" = true) (k16 : PySem.W.keepIn K (.ref f16) = true)
   (a17 : PySem.W.nsIn K mainGlobals "_law_leaf" = some (some (.ref f17))) (l17 : K.lookup f17 = some ⟨oc17, od17, .func (PySem.W.fnOf "_law_leaf" "_law_leaf" (defArgs sLleaf) (defBody sLleaf) (defScope sLleaf) .none kV17 dc17 pm17 an17 cd17 ct17), sl17⟩) (c17 : PySem.W.codeIn K cd17 "_law_leaf" = true) (k17 : PySem.W.keepIn K (.ref f17) = true)
   (a18 : PySem.W.nsIn K mainGlobals "_law_way" = some (some (.ref f18))) (l18 : K.lookup f18 = some ⟨oc18, od18, .func (PySem.W.fnOf "_law_way" "_law_way" (defArgs sLway) (defBody sLway) (defScope sLway) .none kV18 dc18 pm18 an18 cd18 ct18), sl18⟩) (c18 : PySem.W.codeIn K cd18 "_law_way" = true) (k18 : PySem.W.keepIn K (.ref f18) = true)
   (a19 : PySem.W.nsIn K mainGlobals "_law_both" = some (some (.ref f19))) (l19 : K.lookup f19 = some ⟨oc19, od19, .func (PySem.W.fnOf "_law_both" "_law_both" (defArgs sLboth) (defBody sLboth) (defScope sLboth) .none kV19 dc19 pm19 an19 cd19 ct19), sl19⟩) (c19 : PySem.W.codeIn K cd19 "_law_both" = true) (k19 : PySem.W.keepIn K (.ref f19) = true)
   (a20 : PySem.W.nsIn K mainGlobals "_law_ends" = some (some (.ref f20))) (l20 : K.lookup f20 = some ⟨oc20, od20, .func (PySem.W.fnOf "_law_ends" "_law_ends" (defArgs sLends) (defBody sLends) (defScope sLends) .none kV20 dc20 pm20 an20 cd20 ct20), sl20⟩) (c20 : PySem.W.codeIn K cd20 "_law_ends" = true) (k20 : PySem.W.keepIn K (.ref f20) = true)
   (a21 : PySem.W.nsIn K mainGlobals "_law_of" = some (some (.ref f21))) (l21 : K.lookup f21 = some ⟨oc21, od21, .func (PySem.W.fnOf "_law_of" "_law_of" (defArgs sLof) (defBody sLof) (defScope sLof) .none kV21 dc21 pm21 an21 cd21 ct21), sl21⟩) (c21 : PySem.W.codeIn K cd21 "_law_of" = true) (k21 : PySem.W.keepIn K (.ref f21) = true)
   (a22 : PySem.W.nsIn K mainGlobals "_law_tells" = some (some (.ref f22))) (l22 : K.lookup f22 = some ⟨oc22, od22, .func (PySem.W.fnOf "_law_tells" "_law_tells" (defArgs sLtells) (defBody sLtells) (defScope sLtells) .none kV22 dc22 pm22 an22 cd22 ct22), sl22⟩) (c22 : PySem.W.codeIn K cd22 "_law_tells" = true) (k22 : PySem.W.keepIn K (.ref f22) = true)
   (a23 : PySem.W.nsIn K mainGlobals "_law_row_of" = some (some (.ref f23))) (l23 : K.lookup f23 = some ⟨oc23, od23, .func (PySem.W.fnOf "_law_row_of" "_law_row_of" (defArgs sLrow_of) (defBody sLrow_of) (defScope sLrow_of) .none kV23 dc23 pm23 an23 cd23 ct23), sl23⟩) (c23 : PySem.W.codeIn K cd23 "_law_row_of" = true) (k23 : PySem.W.keepIn K (.ref f23) = true)
   (a24 : PySem.W.nsIn K mainGlobals "_law_changed" = some (some (.ref f24))) (l24 : K.lookup f24 = some ⟨oc24, od24, .func (PySem.W.fnOf "_law_changed" "_law_changed" (defArgs sLchanged) (defBody sLchanged) (defScope sLchanged) .none kV24 dc24 pm24 an24 cd24 ct24), sl24⟩) (c24 : PySem.W.codeIn K cd24 "_law_changed" = true) (k24 : PySem.W.keepIn K (.ref f24) = true)
   (a25 : PySem.W.nsIn K mainGlobals "_law_back" = some (some (.ref f25))) (l25 : K.lookup f25 = some ⟨oc25, od25, .func (PySem.W.fnOf "_law_back" "_law_back" (defArgs sLback) (defBody sLback) (defScope sLback) .none kV25 dc25 pm25 an25 cd25 ct25), sl25⟩) (c25 : PySem.W.codeIn K cd25 "_law_back" = true) (k25 : PySem.W.keepIn K (.ref f25) = true)
   (a26 : PySem.W.nsIn K mainGlobals "_law_right" = some (some (.ref f26))) (l26 : K.lookup f26 = some ⟨oc26, od26, .func (PySem.W.fnOf "_law_right" "_law_right" (defArgs sLright) (defBody sLright) (defScope sLright) .none kV26 dc26 pm26 an26 cd26 ct26), sl26⟩) (c26 : PySem.W.codeIn K cd26 "_law_right" = true) (k26 : PySem.W.keepIn K (.ref f26) = true)
   (a27 : PySem.W.nsIn K mainGlobals "law" = some (some (.ref f27))) (l27 : K.lookup f27 = some ⟨oc27, od27, .func (PySem.W.fnOf "law" "law" (defArgs s_law) (defBody s_law) (defScope s_law) .none kV27 dc27 pm27 an27 cd27 ct27), sl27⟩) (c27 : PySem.W.codeIn K cd27 "law" = true) (k27 : PySem.W.keepIn K (.ref f27) = true)
   (z_abs : PySem.W.nsIn K mainGlobals "abs" = some none)
   (z_all : PySem.W.nsIn K mainGlobals "all" = some none)
   (z_bool : PySem.W.nsIn K mainGlobals "bool" = some none)
   (z_int : PySem.W.nsIn K mainGlobals "int" = some none)
   (z_isinstance : PySem.W.nsIn K mainGlobals "isinstance" = some none)
   (z_len : PySem.W.nsIn K mainGlobals "len" = some none)
   (z_min : PySem.W.nsIn K mainGlobals "min" = some none)
   (z_range : PySem.W.nsIn K mainGlobals "range" = some none)
   (z_reversed : PySem.W.nsIn K mainGlobals "reversed" = some none)
   (z_set : PySem.W.nsIn K mainGlobals "set" = some none)
   (z_sorted : PySem.W.nsIn K mainGlobals "sorted" = some none)
   (z_str : PySem.W.nsIn K mainGlobals "str" = some none)
   (z_tuple : PySem.W.nsIn K mainGlobals "tuple" = some none)
   {tk_LONGEST_NAME_1 : Tok} (c_LONGEST_NAME : PySem.W.nsIn K mainGlobals "LONGEST_NAME" = some (some (.int 8 tk_LONGEST_NAME_1)))
   {tk_MOST_TIMES_1 : Tok} (c_MOST_TIMES : PySem.W.nsIn K mainGlobals "MOST_TIMES" = some (some (.int 6 tk_MOST_TIMES_1)))
   {ad_OTHER_TURN : Addr} {ob_OTHER_TURN : Obj} (c_OTHER_TURN : PySem.W.nsIn K mainGlobals "OTHER_TURN" = some (some (.ref ad_OTHER_TURN)))
   (l_OTHER_TURN : K.lookup ad_OTHER_TURN = some ob_OTHER_TURN) (d_OTHER_TURN : ConstD P w K k_OTHER_TURN (.ref ad_OTHER_TURN))
   : ∃ t, Txt P w K mg t ∧ t.f_law = f27 ∧ t.d_law = PySem.W.fnOf "law" "law" (defArgs s_law) (defBody s_law) (defScope s_law) .none kV27 dc27 pm27 an27 cd27 ct27 := by
 have F0 := fun_mk (st := s_is_name) l0 c0 k0
 have b0 := F0.binds (ps := ["thing"]) fun _ _ _ _ _ _ us hl => match us, hl with | [_], _ => rfl
 have F1 := fun_mk (st := s_is_number) l1 c1 k1
 have b1 := F1.binds (ps := ["thing"]) fun _ _ _ _ _ _ us hl => match us, hl with | [_], _ => rfl
 have F2 := fun_mk (st := s_is_way) l2 c2 k2
 have b2 := F2.binds (ps := ["thing"]) fun _ _ _ _ _ _ us hl => match us, hl with | [_], _ => rfl
 have F3 := fun_mk (st := s_are_times) l3 c3 k3
 have b3 := F3.binds (ps := ["low", "high"]) fun _ _ _ _ _ _ us hl => match us, hl with | [_, _], _ => rfl
 have F4 := fun_mk (st := s_tells) l4 c4 k4
 have b4 := F4.binds (ps := ["way", "steps"]) fun _ _ _ _ _ _ us hl => match us, hl with | [_, _], _ => rfl
 have F5 := fun_mk (st := s_ends) l5 c5 k5
 have b5 := F5.binds (ps := ["way", "steps", "starts"]) fun _ _ _ _ _ _ us hl => match us, hl with | [_, _, _], _ => rfl
 have F6 := fun_mk (st := s_ends_again) l6 c6 k6
 have b6 := F6.binds (ps := ["way", "steps", "starts"]) fun _ _ _ _ _ _ us hl => match us, hl with | [_, _, _], _ => rfl
 have F7 := fun_mk (st := s_ends_many) l7 c7 k7
 have b7 := F7.binds (ps := ["way", "steps", "starts"]) fun _ _ _ _ _ _ us hl => match us, hl with | [_, _, _], _ => rfl
 have F8 := fun_mk (st := s_merged) l8 c8 k8
 have b8 := F8.binds (ps := ["one", "other"]) fun _ _ _ _ _ _ us hl => match us, hl with | [_, _], _ => rfl
 have F9 := fun_mk (st := s_is_step_of) l9 c9 k9
 have b9 := F9.binds (ps := ["way", "kind", "turn"]) fun _ _ _ _ _ _ us hl => match us, hl with | [_, _, _], _ => rfl
 have F10 := fun_mk (st := s_least_steps) l10 c10 k10
 have b10 := F10.binds (ps := ["way"]) fun _ _ _ _ _ _ us hl => match us, hl with | [_], _ => rfl
 have F11 := fun_mk (st := s_turned) l11 c11 k11
 have b11 := F11.binds (ps := ["way"]) fun _ _ _ _ _ _ us hl => match us, hl with | [_], _ => rfl
 have F12 := fun_mk (st := s_is_endless) l12 c12 k12
 have b12 := F12.binds (ps := ["way"]) fun _ _ _ _ _ _ us hl => match us, hl with | [_], _ => rfl
 have F13 := fun_mk (st := s_has_steps) l13 c13 k13
 have b13 := F13.binds (ps := ["way"]) fun _ _ _ _ _ _ us hl => match us, hl with | [_], _ => rfl
 have F14 := fun_mk (st := sLhand) l14 c14 k14
 have b14 := F14.binds (ps := ["_law_script", "_law_k"]) fun _ _ _ _ _ _ us hl => match us, hl with | [_, _], _ => rfl
 have F15 := fun_mk (st := sLtake) l15 c15 k15
 have b15 := F15.binds (ps := ["_law_hand_here", "_law_many"]) fun _ _ _ _ _ _ us hl => match us, hl with | [_, _], _ => rfl
 have F16 := fun_mk (st := sLkinds) l16 c16 k16
 have b16 := F16.binds (ps := ["_law_hand_here"]) fun _ _ _ _ _ _ us hl => match us, hl with | [_], _ => rfl
 have F17 := fun_mk (st := sLleaf) l17 c17 k17
 have b17 := F17.binds (ps := ["_law_hand_here", "_law_kinds_here"]) fun _ _ _ _ _ _ us hl => match us, hl with | [_, _], _ => rfl
 have F18 := fun_mk (st := sLway) l18 c18 k18
 have b18 := F18.binds (ps := ["_law_hand_here", "_law_kinds_here", "_law_room", "_law_nest"]) fun _ _ _ _ _ _ us hl => match us, hl with | [_, _, _, _], _ => rfl
 have F19 := fun_mk (st := sLboth) l19 c19 k19
 have b19 := F19.binds (ps := ["_law_one", "_law_other"]) fun _ _ _ _ _ _ us hl => match us, hl with | [_, _], _ => rfl
 have F20 := fun_mk (st := sLends) l20 c20 k20
 have b20 := F20.binds (ps := ["_law_way_here", "_law_row", "_law_begins"]) fun _ _ _ _ _ _ us hl => match us, hl with | [_, _, _], _ => rfl
 have F21 := fun_mk (st := sLof) l21 c21 k21
 have b21 := F21.binds (ps := ["_law_way_here", "_law_step"]) fun _ _ _ _ _ _ us hl => match us, hl with | [_, _], _ => rfl
 have F22 := fun_mk (st := sLtells) l22 c22 k22
 have b22 := F22.binds (ps := ["_law_way_here", "_law_row"]) fun _ _ _ _ _ _ us hl => match us, hl with | [_, _], _ => rfl
 have F23 := fun_mk (st := sLrow_of) l23 c23 k23
 have b23 := F23.binds (ps := ["_law_hand_here", "_law_way_here", "_law_kinds_here"]) fun _ _ _ _ _ _ us hl => match us, hl with | [_, _, _], _ => rfl
 have F24 := fun_mk (st := sLchanged) l24 c24 k24
 have b24 := F24.binds (ps := ["_law_hand_here", "_law_row", "_law_kinds_here"]) fun _ _ _ _ _ _ us hl => match us, hl with | [_, _, _], _ => rfl
 have F25 := fun_mk (st := sLback) l25 c25 k25
 have b25 := F25.binds (ps := ["_law_row"]) fun _ _ _ _ _ _ us hl => match us, hl with | [_], _ => rfl
 have F26 := fun_mk (st := sLright) l26 c26 k26
 have b26 := F26.binds (ps := ["_law_way_here", "_law_other", "_law_again", "_law_row"]) fun _ _ _ _ _ _ us hl => match us, hl with | [_, _, _, _], _ => rfl
 have F27 := fun_mk (st := s_law) l27 c27 k27
 have b27 := F27.binds (ps := ["_law_script"]) fun _ _ _ _ _ _ us hl => match us, hl with | [_], _ => rfl
 exact ⟨⟨f0, _, f1, _, f2, _, f3, _, f4, _, f5, _, f6, _, f7, _, f8, _, f9, _, f10, _, f11, _, f12, _, f13, _, f14, _, f15, _, f16, _, f17, _, f18, _, f19, _, f20, _, f21, _, f22, _, f23, _, f24, _, f25, _, f26, _, f27, _, _, _, _⟩, ⟨F0, b0, PySem.W.mg_of X G a0, F1, b1, PySem.W.mg_of X G a1, F2, b2, PySem.W.mg_of X G a2, F3, b3, PySem.W.mg_of X G a3, F4, b4, PySem.W.mg_of X G a4, F5, b5, PySem.W.mg_of X G a5, F6, b6, PySem.W.mg_of X G a6, F7, b7, PySem.W.mg_of X G a7, F8, b8, PySem.W.mg_of X G a8, F9, b9, PySem.W.mg_of X G a9, F10, b10, PySem.W.mg_of X G a10, F11, b11, PySem.W.mg_of X G a11, F12, b12, PySem.W.mg_of X G a12, F13, b13, PySem.W.mg_of X G a13, F14, b14, PySem.W.mg_of X G a14, F15, b15, PySem.W.mg_of X G a15, F16, b16, PySem.W.mg_of X G a16, F17, b17, PySem.W.mg_of X G a17, F18, b18, PySem.W.mg_of X G a18, F19, b19, PySem.W.mg_of X G a19, F20, b20, PySem.W.mg_of X G a20, F21, b21, PySem.W.mg_of X G a21, F22, b22, PySem.W.mg_of X G a22, F23, b23, PySem.W.mg_of X G a23, F24, b24, PySem.W.mg_of X G a24, F25, b25, PySem.W.mg_of X G a25, F26, b26, PySem.W.mg_of X G a26, F27, b27, PySem.W.mg_of X G a27, PySem.W.mg_none_of X G z_abs, PySem.W.mg_none_of X G z_all, PySem.W.mg_none_of X G z_bool, PySem.W.mg_none_of X G z_int, PySem.W.mg_none_of X G z_isinstance, PySem.W.mg_none_of X G z_len, PySem.W.mg_none_of X G z_min, PySem.W.mg_none_of X G z_range, PySem.W.mg_none_of X G z_reversed, PySem.W.mg_none_of X G z_set, PySem.W.mg_none_of X G z_sorted, PySem.W.mg_none_of X G z_str, PySem.W.mg_none_of X G z_tuple, PySem.W.mg_of X G c_LONGEST_NAME, const_int, PySem.W.mg_of X G c_MOST_TIMES, const_int, PySem.W.mg_of X G c_OTHER_TURN, d_OTHER_TURN⟩, rfl, rfl⟩
end K17
open PySem PySem.W PyProof.Rows
set_option maxRecDepth 100000 in
set_option maxHeartbeats 0 in
theorem PySem.Challenge.cw_webstore_k17_ways_turned_holds : PySem.Challenge.rw_webstore_k17_ways_turned.Holds := by
 w_on; o_law; k_head; (case hw => w_witness2)
 k_fill
 refine L2.walk_ofK (l := PySem.Challenge.rw_webstore_k17_ways_turned) (n := 63) (k := 28) (x := "_law_script") (CX := L2.CX0) (sp := L2.spLaw) rfl (by decide) rfl ⟨rfl, by decide, by decide⟩ (fun w h Y => PySem.W.kIn_of Y) ?F ?S ?C
 case F =>
   intro w mg fa h KX G hmg
   have Z : ∃ f kV dc pm an cd ct t, K17.Txt (PySem.Challenge.rw_webstore_k17_ways_turned).prog w (L2.KOf KX) mg t ∧ t.f_law = f ∧ t.d_law = PySem.W.fnOf "law" "law" (L2.defArgs K17.s_law) (L2.defBody K17.s_law) (L2.defScope K17.s_law) .none kV dc pm an cd ct := by
     dsimp only [L2.KOf]
     refine' ⟨_, _, _, _, _, _, _, K17.txt_mk _ w KX G ?a0 ?l0 ?c0 ?k0 ?a1 ?l1 ?c1 ?k1 ?a2 ?l2 ?c2 ?k2 ?a3 ?l3 ?c3 ?k3 ?a4 ?l4 ?c4 ?k4 ?a5 ?l5 ?c5 ?k5 ?a6 ?l6 ?c6 ?k6 ?a7 ?l7 ?c7 ?k7 ?a8 ?l8 ?c8 ?k8 ?a9 ?l9 ?c9 ?k9 ?a10 ?l10 ?c10 ?k10 ?a11 ?l11 ?c11 ?k11 ?a12 ?l12 ?c12 ?k12 ?a13 ?l13 ?c13 ?k13 ?a14 ?l14 ?c14 ?k14 ?a15 ?l15 ?c15 ?k15 ?a16 ?l16 ?c16 ?k16 ?a17 ?l17 ?c17 ?k17 ?a18 ?l18 ?c18 ?k18 ?a19 ?l19 ?c19 ?k19 ?a20 ?l20 ?c20 ?k20 ?a21 ?l21 ?c21 ?k21 ?a22 ?l22 ?c22 ?k22 ?a23 ?l23 ?c23 ?k23 ?a24 ?l24 ?c24 ?k24 ?a25 ?l25 ?c25 ?k25 ?a26 ?l26 ?c26 ?k26 ?a27 ?l27 ?c27 ?k27 ?z_abs ?z_all ?z_bool ?z_int ?z_isinstance ?z_len ?z_min ?z_range ?z_reversed ?z_set ?z_sorted ?z_str ?z_tuple ?c_LONGEST_NAME ?c_MOST_TIMES ?c_OTHER_TURN ?l_OTHER_TURN ?d_OTHER_TURN⟩
     (case a0 => k_is)
     (case l0 => k_is)
     (case c0 => k_is)
     (case k0 => k_is)
     (case a1 => k_is)
     (case l1 => k_is)
     (case c1 => k_is)
     (case k1 => k_is)
     (case a2 => k_is)
     (case l2 => k_is)
     (case c2 => k_is)
     (case k2 => k_is)
     (case a3 => k_is)
     (case l3 => k_is)
     (case c3 => k_is)
     (case k3 => k_is)
     (case a4 => k_is)
     (case l4 => k_is)
     (case c4 => k_is)
     (case k4 => k_is)
     (case a5 => k_is)
     (case l5 => k_is)
     (case c5 => k_is)
     (case k5 => k_is)
     (case a6 => k_is)
     (case l6 => k_is)
     (case c6 => k_is)
     (case k6 => k_is)
     (case a7 => k_is)
     (case l7 => k_is)
     (case c7 => k_is)
     (case k7 => k_is)
     (case a8 => k_is)
     (case l8 => k_is)
     (case c8 => k_is)
     (case k8 => k_is)
     (case a9 => k_is)
     (case l9 => k_is)
     (case c9 => k_is)
     (case k9 => k_is)
     (case a10 => k_is)
     (case l10 => k_is)
     (case c10 => k_is)
     (case k10 => k_is)
     (case a11 => k_is)
     (case l11 => k_is)
     (case c11 => k_is)
     (case k11 => k_is)
     (case a12 => k_is)
     (case l12 => k_is)
     (case c12 => k_is)
     (case k12 => k_is)
     (case a13 => k_is)
     (case l13 => k_is)
     (case c13 => k_is)
     (case k13 => k_is)
     (case a14 => k_is)
     (case l14 => k_is)
     (case c14 => k_is)
     (case k14 => k_is)
     (case a15 => k_is)
     (case l15 => k_is)
     (case c15 => k_is)
     (case k15 => k_is)
     (case a16 => k_is)
     (case l16 => k_is)
     (case c16 => k_is)
     (case k16 => k_is)
     (case a17 => k_is)
     (case l17 => k_is)
     (case c17 => k_is)
     (case k17 => k_is)
     (case a18 => k_is)
     (case l18 => k_is)
     (case c18 => k_is)
     (case k18 => k_is)
     (case a19 => k_is)
     (case l19 => k_is)
     (case c19 => k_is)
     (case k19 => k_is)
     (case a20 => k_is)
     (case l20 => k_is)
     (case c20 => k_is)
     (case k20 => k_is)
     (case a21 => k_is)
     (case l21 => k_is)
     (case c21 => k_is)
     (case k21 => k_is)
     (case a22 => k_is)
     (case l22 => k_is)
     (case c22 => k_is)
     (case k22 => k_is)
     (case a23 => k_is)
     (case l23 => k_is)
     (case c23 => k_is)
     (case k23 => k_is)
     (case a24 => k_is)
     (case l24 => k_is)
     (case c24 => k_is)
     (case k24 => k_is)
     (case a25 => k_is)
     (case l25 => k_is)
     (case c25 => k_is)
     (case k25 => k_is)
     (case a26 => k_is)
     (case l26 => k_is)
     (case c26 => k_is)
     (case k26 => k_is)
     (case a27 => k_is)
     (case l27 => k_is)
     (case c27 => k_is)
     (case k27 => k_is)
     (case z_abs => k_is)
     (case z_all => k_is)
     (case z_bool => k_is)
     (case z_int => k_is)
     (case z_isinstance => k_is)
     (case z_len => k_is)
     (case z_min => k_is)
     (case z_range => k_is)
     (case z_reversed => k_is)
     (case z_set => k_is)
     (case z_sorted => k_is)
     (case z_str => k_is)
     (case z_tuple => k_is)
     (case c_LONGEST_NAME => k_is)
     (case c_MOST_TIMES => k_is)
     (case c_OTHER_TURN => k_is)
     (case l_OTHER_TURN => k_is)
     (case d_OTHER_TURN => (refine' L2.const_dct ?lk ?rest ?nd; (case lk => k_is); (case rest => exact (L2.dct_cons (L2.dct_cons (L2.dct_cons L2.dct_nil)))); (case nd => decide +kernel)))
   obtain ⟨f, kV, dc, pm, an, cd, ct, t, hT, hf, hd⟩ := Z
   have e := hmg.symm.trans hT.m_law
   rw [hf] at e
   cases e
   subst hf
   refine ⟨t.d_law, fun s u => by rw [hd]; exact .of_eq rfl, fun base kb nb => (K17.ok_law0 hT).mono (by decide)⟩
 case S => exact fun K H a ns hl hO hS => L2.spLaw_of hl hS
 case C => exact fun _ _ _ _ z => z
