import PyProof.Rows.All
import Wide.All
import OpenK.AllK
import Wide.FinOn
import Lean
import PyProof.EqAt
import PyProof.EqKinds
import PyProof.TupleCall
import PyProof.NeKinds
import PyProof.ExcBaseAll.ValueError
import KE.KTryDeep
import PyProof.ExcArgs
import KE.KIsAll
import PyProof.FactsAll.list_3
import KE.KRevIter
import PyProof.ListRange
import PyProof.Draws
import PyProof.EnumMake
import PyProof.Rows.CallKwBuiltin
import PyProof.Rows.SumAny
import PyProof.StrCalls2
import PyProof.StrLawsTight
import PyProof.ConsumeWalk
import PyProof.WalkInts
import PyProof.Conv_int
import PyProof.StrLoop
import PyProof.StrWalks
import PyProof.Rows.FStr
import PyProof.Rows.StrWeight2
import PyProof.Rows.StrItems
import PyProof.Rows.StrSplitAre
import PyProof.StrBlockG
import PySem.Challenge.RW_wishmoor_k22_read
set_option Elab.async false
set_option linter.all false
set_option maxRecDepth 100000
/-! THE HAND LAYER, for ints, bools, texts, own classes, LISTS and tuples (index, slices, in, append, pop ..), calls, loops. Paste it whole ahead of your own text; what your proof does not reach may be deleted. -/
namespace L2
open PySem PySem.Spec PyProof.Rows

/-- a key: an int or a str -/
abbrev Key := Sum Int Str
def keyIs : Key → Value → Bool
  | .inl k, v => Value.isInt k v
  | .inr x, v => Value.isStrOf x v
def keyH (w : World) : Key → Int
  | .inl k => hashInt k
  | .inr x => hashStr w x
theorem keyIs_shape : ∀ {k : Key} {v : Value}, keyIs k v = true → (∃ i t, k = Sum.inl i ∧ v = Value.int i t) ∨ (∃ x t, k = Sum.inr x ∧ v = Value.str x t)
  | .inl i, v, h => by
    obtain ⟨t, e⟩ := Value.isInt_shape (k := i) (v := v) h
    exact .inl ⟨i, t, rfl, e⟩
  | .inr x, v, h => by
    obtain ⟨t, e⟩ := Value.isStrOf_shape (x := x) (v := v) h
    exact .inr ⟨x, t, rfl, e⟩
theorem keyIs_int (i : Int) (t : Tok) : keyIs (.inl i) (.int i t) = true := by simp [keyIs, Value.isInt]
theorem keyIs_str (x : Str) (t : Tok) : keyIs (.inr x) (.str x t) = true := by simp [keyIs, Value.isStrOf]
theorem key_ll (a b : Int) : decide ((Sum.inl a : Key) = Sum.inl b) = (a == b) := by
  by_cases e : a = b
  · subst e; simp
  · have h : ¬ (Sum.inl a : Key) = Sum.inl b := fun q => e (Sum.inl.inj q)
    rw [decide_eq_false h]
    exact (beq_eq_false_iff_ne.mpr e).symm
theorem key_rr (a b : Str) : decide ((Sum.inr a : Key) = Sum.inr b) = decide (a = b) := by
  by_cases e : a = b
  · subst e; simp
  · have h : ¬ (Sum.inr a : Key) = Sum.inr b := fun q => e (Sum.inr.inj q)
    rw [decide_eq_false h, decide_eq_false e]
theorem key_lr (a : Int) (b : Str) : decide ((Sum.inl a : Key) = Sum.inr b) = false := decide_eq_false (fun q => nomatch q)
theorem key_rl (a : Str) (b : Int) : decide ((Sum.inr a : Key) = Sum.inl b) = false := decide_eq_false (fun q => nomatch q)

def mixKind (prog : Program) (w : World) : PySem.KeyKind prog w Key where
  is := keyIs
  hash := keyH w
  inj := fun v a b ha hb => by
    rcases keyIs_shape ha with ⟨i, t, rfl, rfl⟩ | ⟨x, t, rfl, rfl⟩
    · rcases keyIs_shape hb with ⟨j, u, rfl, e⟩ | ⟨y, u, rfl, e⟩
      · injection e with e1 _; rw [e1]
      · exact nomatch e
    · rcases keyIs_shape hb with ⟨j, u, rfl, e⟩ | ⟨y, u, rfl, e⟩
      · exact nomatch e
      · injection e with e1 _; rw [e1]
  byValue := fun k v h => by
    rcases keyIs_shape h with ⟨i, t, rfl, rfl⟩ | ⟨x, t, rfl, rfl⟩ <;> rfl
  pyHash := fun hv h => by
    rcases keyIs_shape hv with ⟨i, t, rfl, rfl⟩ | ⟨x, t, rfl, rfl⟩
    · exact wpAny_pyHash_int h
    · exact wpAny_pyHash_str h
  eqBool := fun hu hv h => by
    rcases keyIs_shape hu with ⟨i, t, rfl, rfl⟩ | ⟨x, t, rfl, rfl⟩
    · rcases keyIs_shape hv with ⟨j, u, rfl, rfl⟩ | ⟨y, u, rfl, rfl⟩
      · rw [key_ll] at h; exact wpAny_eqBool_int h
      · rw [key_lr] at h; exact SeqAt.EqAt.int_str i t y u _ _ _ _ h
    · rcases keyIs_shape hv with ⟨j, u, rfl, rfl⟩ | ⟨y, u, rfl, rfl⟩
      · rw [key_rl] at h; exact SeqAt.EqAt.str_int x t j u _ _ _ _ h
      · rw [key_rr] at h; exact wpAny_eqBool_str h
  «strs» := fun k x t v h => by
    rcases keyIs_shape h with ⟨i, u, rfl, e⟩ | ⟨y, u, rfl, e⟩
    · exact nomatch e
    · injection e with e1 _
      subst e1
      cases v <;> rfl

theorem mixKind_is (prog : Program) (w : World) (k : Key) (v : Value) : (mixKind prog w).is k v = keyIs k v := rfl
theorem mixKind_int (prog : Program) (w : World) (i : Int) (t : Tok) : (mixKind prog w).is (.inl i) (.int i t) = true := keyIs_int i t
theorem mixKind_str (prog : Program) (w : World) (x : Str) (t : Tok) : (mixKind prog w).is (.inr x) (.str x t) = true := keyIs_str x t
end L2

namespace L2
open PySem PySem.Spec PyProof.Rows

/-- a value, without the heap -/
inductive V where
  | non | bl (b : Bool) | int (i : Int) | str (x : Str) | byt (b : Array UInt8) | flt (b : UInt64) | ref (a : Addr) | ty (n : String)
  deriving DecidableEq

def RelV : V → Value → Prop
  | .non, u => u = Value.none
  | .bl b, u => u = Value.bool b
  | .int i, u => ∃ t, u = Value.int i t
  | .str x, u => ∃ t, u = Value.str x t
  | .byt b, u => ∃ t, u = Value.bytes b t
  | .flt b, u => ∃ t, u = Value.float b t
  | .ref a, u => u = Value.ref a
  | .ty n, u => u = Value.type n

abbrev Vals : List V → List Value → Prop := Paired RelV
theorem Vals.length {xs : List V} {us : List Value} (r : Vals xs us) : xs.length = us.length := Paired.length r
theorem Vals.get : ∀ {xs : List V} {us : List Value} {i : Nat} {x : V}, Vals xs us → xs[i]? = some x → ∃ u, us[i]? = some u ∧ RelV x u
  | _, _, _, _, .nil, e => by simp at e
  | _, _, 0, _, .cons r _, e => by simp at e; subst e; exact ⟨_, rfl, r⟩
  | _, _, i + 1, x, .cons _ t, e => by
    obtain ⟨u, h1, h2⟩ := Vals.get (i := i) (x := x) t (by simpa using e)
    exact ⟨u, by simpa using h1, h2⟩
theorem Vals.set {x : V} {u : Value} (r : RelV x u) : ∀ {xs : List V} {us : List Value} (i : Nat), Vals xs us → Vals (xs.set i x) (us.set i u)
  | _, _, _, .nil => .nil
  | _, _, 0, .cons _ t => .cons r t
  | _, _, i + 1, .cons q t => .cons q (Vals.set r i t)
theorem Vals.append : ∀ {xs ys : List V} {us ws : List Value}, Vals xs us → Vals ys ws → Vals (xs ++ ys) (us ++ ws)
  | _, _, _, _, .nil, s => s
  | _, _, _, _, .cons r t, s => .cons r (Vals.append t s)
theorem Vals.take : ∀ {xs : List V} {us : List Value} (n : Nat), Vals xs us → Vals (xs.take n) (us.take n)
  | _, _, 0, _ => .nil
  | _, _, _ + 1, .nil => .nil
  | _, _, n + 1, .cons r t => .cons r (Vals.take n t)
theorem Vals.drop : ∀ {xs : List V} {us : List Value} (n : Nat), Vals xs us → Vals (xs.drop n) (us.drop n)
  | _, _, 0, r => r
  | _, _, _ + 1, .nil => .nil
  | _, _, n + 1, .cons _ t => Vals.drop n t
theorem Vals.none_of : ∀ {xs : List V} {us : List Value} {i : Nat}, Vals xs us → xs[i]? = none → us[i]? = none := fun {xs us i} r e => by
  have h1 := r.length
  have h2 : xs.length ≤ i := List.getElem?_eq_none_iff.mp e
  exact List.getElem?_eq_none_iff.mpr (by omega)

def RelO : Option V → Option Value → Prop
  | some v, some u => RelV v u
  | none, none => True
  | _, _ => False
def KV {κ : Type} : List (κ × V) → List (κ × Value) → Prop := Paired fun (p : κ × V) (q : κ × Value) => p.1 = q.1 ∧ RelV p.2 q.2

/-- a key of a dict (00_mix): an int or a text -/
def kV : Key → V
  | .inl i => .int i
  | .inr x => .str x

/-- what stands at a tracked address -/
inductive HO where
  /-- a list -/
  | lst (xs : List V)
  /-- a tuple (never changes) -/
  | tup (xs : List V)
  /-- a dict whose keys are ints and texts; one whose keys are tuples of ints and texts (the empty one is both) -/
  | dK (kvs : List (Key × V)) | dT (kvs : List (List Key × V))
  /-- a set of ints: its members, its size -/
  | set (S : Int → Bool) (n : Nat)
  /-- an instance of the class at C, its dict at dx, its attributes -/
  | ins (C dx : Addr) (fs : List (Str × V))
  /-- the dict of the instance at x -/
  | own (x : Addr)
  /-- the dict of an exception -/
  | xd (fs : List (Str × V))
  /-- a bound method, f of x -/
  | met (f x : Addr)
  /-- a range object lo, lo + 1, .. below hi -/
  | rng (lo hi : Int)
  /-- a thing that is known to the object (the script; a dict while a loop walks it): read, never written while it is so -/
  | frz (o : Obj) (u : HO)
  /-- a code object's table -/
  | tbl (ps : Array Value)
  /-- any other thing, by what is true of its one object (a def of one's own: SetO a S n := HO.ext fun h => ..) -/
  | ext (φ : Heap → Prop)

abbrev Hp := Addr → Option HO
def upd (H : Hp) (a : Addr) (o : HO) : Hp := fun b => if b = a then some o else H b
theorem upd_same {H : Hp} {a : Addr} {o : HO} : upd H a o a = some o := by unfold upd; rw [if_pos rfl]
theorem upd_ne {H : Hp} {a b : Addr} {o : HO} (h : b ≠ a) : upd H a o b = H b := by unfold upd; rw [if_neg h]
theorem upd_upd {H : Hp} {a : Addr} {o u : HO} : upd (upd H a o) a u = upd H a u := by
  funext b; unfold upd; split <;> rfl
/-- two objects of different content stand apart -/
theorem ne_of {H : Hp} {a b : Addr} {o u : HO} (h : H a = some o) (h' : H b = some u) (d : o ≠ u) : a ≠ b := by
  intro e; subst e; rw [h] at h'; exact d (Option.some.inj h')
theorem ne_of_none {H : Hp} {a b : Addr} {o : HO} (h : H a = some o) (h' : H b = none) : a ≠ b := by
  intro e; subst e; rw [h] at h'; cases h'

section
variable (P : Program) (w : World)
def ObjOk (H : Hp) (h : Heap) (a : Addr) : HO → Prop
  | .lst xs => xs.length ≤ sizeLine ∧ ∃ (its : List Value) (n : Nat), Vals xs its ∧ h.get? a = some { cls := .type "list", data := .seq its.toArray n }
  | .tup xs => xs.length ≤ sizeLine ∧ ∃ its : List Value, Vals xs its ∧ IsTup h a its.toArray
  | .dK kvs => kvs.length ≤ sizeLine ∧ (a == sysModules) = false ∧ ∃ vs, KV kvs vs ∧ h.DictOf (mixKind P w) a vs
  | .dT kvs => kvs.length ≤ sizeLine ∧ (a == sysModules) = false ∧ ∃ xs : List (List Key × Addr × Value),
      Paired (fun (p : List Key × V) (q : List Key × Addr × Value) => p.1 = q.1 ∧ H q.2.1 = some (.tup (p.1.map kV)) ∧ RelV p.2 q.2.2) kvs xs ∧
      ∃ o es ep, h.get? a = some o ∧ o.ExactDict ∧ o.data = .dict es ep ∧ es.toList = xs.map (entryOfKey (tupleKind (mixKind P w))) ∧ (xs.map (·.1)).Nodup
  | .set S n => h.SetOf (intKind P w) a S n
  | .ins C dx fs => H dx = some (.own a) ∧ fs.length ≤ 1000 ∧ dx ≠ a ∧ h.get? a = some (PySem.W.instObj C dx) ∧
      ∃ mA, h.Ns1 dx mA ∧ (∀ f, RelO (fs.lookup f) (mA f)) ∧ PySem.Within mA (fs.map (·.1))
  | .own _ => ∃ o, h.get? a = some o
  | .xd fs => ∃ mA, h.Ns1 a mA ∧ ∀ f, RelO (fs.lookup f) (mA f)
  | .rng lo hi => ∃ t u v, h.get? a = some { cls := .type "range", data := .fields #[.int lo t, .int hi u, .int 1 v] }
  | .frz o u => h.get? a = some o ∧ ObjOk H h a u
  | .tbl ps => h.get? a = some { cls := .none, data := .fields ps }
  | .met f x => h.get? a = some (PySem.W.methodObj (.ref f) (.ref x))
  | .ext φ => φ h ∧ (∃ o, h.get? a = some o) ∧ ∀ h1 h2 : Heap, φ h1 → (∀ o, h1.get? a = some o → h2.get? a = some o) → φ h2
/-- the abstract heap is held -/
def HOk (H : Hp) (h : Heap) : Prop := ∀ a o, H a = some o → ObjOk P w H h a o
end

section
variable {P : Program} {w : World} {H H' : Hp} {h h' : Heap} {a : Addr} {o : HO}
theorem ObjOk.lt (x : ObjOk P w H h a o) : a < h.objs.size := by
  cases o with
  | lst xs => obtain ⟨_, _, _, _, e⟩ := x; exact Heap.lt_size e
  | tup xs => obtain ⟨_, _, _, p⟩ := x; exact p.lt
  | dK kvs => obtain ⟨_, _, _, _, o, _, _, e, _⟩ := x; exact Heap.lt_size e
  | dT kvs => obtain ⟨_, _, _, _, o, _, _, e, _⟩ := x; exact Heap.lt_size e
  | set S n => obtain ⟨o, _, _, _, e, _⟩ := x; exact Heap.lt_size e
  | ins C dx fs => obtain ⟨_, _, _, e, _⟩ := x; exact Heap.lt_size e
  | own y => obtain ⟨_, e⟩ := x; exact Heap.lt_size e
  | xd fs => obtain ⟨_, ⟨_, _, _, e, _⟩, _⟩ := x; exact Heap.lt_size e
  | rng lo hi => obtain ⟨_, _, _, e⟩ := x; exact Heap.lt_size e
  | frz ob u => obtain ⟨e, _⟩ := x; exact Heap.lt_size e
  | tbl ps => exact Heap.lt_size (show h.get? a = some _ from x)
  | met f y => exact Heap.lt_size (show h.get? a = some _ from x)
  | ext φ => obtain ⟨_, ⟨_, e⟩, _⟩ := x; exact Heap.lt_size e
theorem Paired.mapP {α β : Type} {F G : α → β → Prop} : ∀ {l₁ : List α} {l₂ : List β}, Paired F l₁ l₂ → (∀ a b, F a b → G a b) → Paired G l₁ l₂
  | _, _, .nil, _ => .nil
  | _, _, .cons r t, f => .cons (f _ _ r) (Paired.mapP t f)
theorem Paired.imp' {α β : Type} {F G : α → β → Prop} (f : ∀ a b, F a b → G a b) {l₁ : List α} {l₂ : List β} (r : Paired F l₁ l₂) : Paired G l₁ l₂ := Paired.mapP r f
/-- what an object's description leans on: its own object, its own dict, the tuples -/
theorem ObjOk.stay (x : ObjOk P w H h a o) (k : ∀ b u, (b = a ∨ H b = some (.own a)) → h.get? b = some u → h'.get? b = some u)
    (ho : ∀ b, H b = some (.own a) → H' b = some (.own a)) (ht : ∀ b xs, H b = some (.tup xs) → H' b = some (.tup xs)) : ObjOk P w H' h' a o := by
  induction o with
  | lst xs => obtain ⟨z, its, n, r, e⟩ := x; exact ⟨z, its, n, r, k _ _ (.inl rfl) e⟩
  | tup xs => obtain ⟨z, its, r, ob, e, c⟩ := x; exact ⟨z, its, r, ob, k _ _ (.inl rfl) e, c⟩
  | dK kvs => obtain ⟨z, y, vs, r, ob, es, ep, e, c⟩ := x; exact ⟨z, y, vs, r, ob, es, ep, k _ _ (.inl rfl) e, c⟩
  | dT kvs =>
    obtain ⟨z, y, xs, r, ob, es, ep, e, c⟩ := x
    exact ⟨z, y, xs, Paired.mapP r fun p q z => ⟨z.1, ht _ _ z.2.1, z.2.2⟩, ob, es, ep, k _ _ (.inl rfl) e, c⟩
  | set S n => obtain ⟨ob, es, ep, t, e, c⟩ := x; exact ⟨ob, es, ep, t, k _ _ (.inl rfl) e, c⟩
  | ins C dx fs =>
    obtain ⟨d, z, ne, e, mA, ⟨od, es, ep, e2, c⟩, r⟩ := x
    exact ⟨ho _ d, z, ne, k _ _ (.inl rfl) e, mA, ⟨od, es, ep, k _ _ (.inr d) e2, c⟩, r⟩
  | own y => obtain ⟨ob, e⟩ := x; exact ⟨ob, k _ _ (.inl rfl) e⟩
  | xd fs => obtain ⟨mA, ⟨od, es, ep, e, c⟩, r⟩ := x; exact ⟨mA, ⟨od, es, ep, k _ _ (.inl rfl) e, c⟩, r⟩
  | rng lo hi => obtain ⟨t, u, v, e⟩ := x; exact ⟨t, u, v, k _ _ (.inl rfl) e⟩
  | frz ob u ih => obtain ⟨e, q⟩ := x; exact ⟨k _ _ (.inl rfl) e, ih q⟩
  | tbl ps =>
    have e : h.get? a = some { cls := .none, data := .fields ps } := x
    show h'.get? a = some { cls := .none, data := .fields ps }
    exact k a _ (.inl rfl) e
  | met f y =>
    have e : h.get? a = some (PySem.W.methodObj (.ref f) (.ref y)) := x
    show h'.get? a = some (PySem.W.methodObj (.ref f) (.ref y))
    exact k a _ (.inl rfl) e
  | ext φ => obtain ⟨p, ⟨o, e⟩, st⟩ := x; exact ⟨st _ _ p fun o q => k _ _ (.inl rfl) q, ⟨o, k _ _ (.inl rfl) e⟩, st⟩
theorem HOk.lt (x : HOk P w H h) (e : H a = some o) : a < h.objs.size := (x a o e).lt
theorem HOk.fresh (x : HOk P w H h) (e : h.objs.size ≤ a) : H a = none := by
  cases q : H a with
  | none => rfl
  | some u => exact absurd (Nat.lt_of_lt_of_le (x.lt q) e) (Nat.lt_irrefl _)
/-- every object of the heap is kept -/
theorem HOk.kept (x : HOk P w H h) (k : ∀ b u, h.get? b = some u → h'.get? b = some u) : HOk P w H h' := fun a o e =>
  (x a o e).stay (fun b u _ q => k b u q) (fun _ q => q) fun _ _ q => q
/-- a new object is laid and tracked -/
theorem HOk.laid (x : HOk P w H h) (k : ∀ b u, h.get? b = some u → h'.get? b = some u) (hp : h.objs.size ≤ a) (new : ObjOk P w (upd H a o) h' a o) : HOk P w (upd H a o) h' := fun b u e => by
  have hn := x.fresh hp
  by_cases hb : b = a
  · subst hb; rw [upd_same] at e; cases e; exact new
  · rw [upd_ne hb] at e
    exact (x b u e).stay (fun c v _ q => k c v q) (fun c q => by rw [upd_ne (ne_of_none q hn)]; exact q) fun c xs q => by rw [upd_ne (ne_of_none q hn)]; exact q
end

/-- what may be read as u: it is u, or a known u -/
def Rd (H : Hp) (a : Addr) (u : HO) : Prop := H a = some u ∨ ∃ o, H a = some (.frz o u)
theorem Rd.of {H : Hp} {a : Addr} {u : HO} (h : H a = some u) : Rd H a u := .inl h
theorem Rd.ok {P : Program} {w : World} {H : Hp} {h : Heap} {a : Addr} {u : HO} (r : Rd H a u) (x : HOk P w H h) : ObjOk P w H h a u := by
  rcases r with r | ⟨o, r⟩
  · exact x a u r
  · obtain ⟨_, q⟩ := x a _ r
    exact q
/-- what may be written -/
def Mut : Option HO → Prop
  | some (.lst _) => True
  | some (.dK _) => True
  | some (.dT _) => True
  | some (.set _ _) => True
  | some (.ins _ _ _) => True
  | some (.ext _) => True
  | _ => False
section
variable {P : Program} {w : World} {H : Hp} {h h' : Heap} {x e : Addr} {o' : HO}
/-- the object at e is changed: x itself, or the dict of the instance x -/
theorem HOk.write (ok : HOk P w H h) (mu : Mut (H x)) (he : e = x ∨ H e = some (.own x)) (k : ∀ b u, b ≠ e → h.get? b = some u → h'.get? b = some u) (heo : ∃ u, h'.get? e = some u)
    (new : ObjOk P w (upd H x o') h' x o') : HOk P w (upd H x o') h' := fun b u q => by
  have nown : ∀ c y, H c = some (.own y) → c ≠ x := fun c y r z => by subst z; rw [r] at mu; exact mu
  have ntup : ∀ c xs, H c = some (.tup xs) → c ≠ x := fun c xs r z => by subst z; rw [r] at mu; exact mu
  by_cases hb : b = x
  · subst hb; rw [upd_same] at q; cases q; exact new
  · rw [upd_ne hb] at q
    by_cases hbe : b = e
    · have q' : H b = some (.own x) := by
        rcases he with z | z
        · exact absurd (hbe.trans z) hb
        · rw [hbe]; exact z
      rw [q] at q'; cases q'
      obtain ⟨v, hv⟩ := heo
      exact ⟨v, by rw [hbe]; exact hv⟩
    · refine (ok b u q).stay (fun c v hc r => k c v ?_ r) (fun c r => by rw [upd_ne (nown c b r)]; exact r) fun c xs r => by rw [upd_ne (ntup c xs r)]; exact r
      rcases hc with rfl | hc
      · exact hbe
      · rintro rfl
        rcases he with z | z
        · exact nown c b hc z
        · rw [hc] at z; cases z; exact hb rfl
end

/-! ### kept unless tracked; of the frames at fs (the callers') the slots may change (an exception that passes writes there); of the records at ex (iterators) nothing is said -/
structure Un (fs ex : List Addr) (H H' : Hp) (h h' : Heap) : Prop where
  keep : ∀ b o, h.get? b = some o → H b = none → b ∉ fs → b ∉ ex → h'.get? b = some o
  slot : ∀ b o, h.get? b = some o → H b = none → b ∈ fs → b ∉ ex → ∃ sl, h'.get? b = some { o with slots := sl }
  free : ∀ b o, h.get? b = some o → H b = none → b ∉ ex → H' b = none
  there : ∀ b o, h.get? b = some o → b ∉ ex → ∃ o', h'.get? b = some o'
  tups : ∀ b xs, H b = some (.tup xs) → H' b = some (.tup xs)
  frzs : ∀ b o u, H b = some (.frz o u) → H' b = some (.frz o u)
  tbls : ∀ b ps, H b = some (.tbl ps) → ∃ more, H' b = some (.tbl (ps ++ more))
section
variable {fs fs' ex ex' : List Addr} {H H1 H2 : Hp} {h h1 h2 h' : Heap} {a x e : Addr} {o : HO}
theorem Un.any (u : Un fs ex H H1 h h1) {b : Addr} {ob : Obj} (q : h.get? b = some ob) (n : H b = none) (hx : b ∉ ex) : ∃ sl, h1.get? b = some { ob with slots := sl } := by
  by_cases hb : b ∈ fs
  · exact u.slot b ob q n hb hx
  · exact ⟨ob.slots, u.keep b ob q n hb hx⟩
theorem Un.trans (a : Un fs ex H H1 h h1) (b : Un fs ex H1 H2 h1 h2) : Un fs ex H H2 h h2 where
  keep := fun c ob q n hc hx => b.keep c ob (a.keep c ob q n hc hx) (a.free c ob q n hx) hc hx
  slot := fun c ob q n hc hx => by
    obtain ⟨sl, e1⟩ := a.slot c ob q n hc hx
    obtain ⟨sl', e2⟩ := b.slot c _ e1 (a.free c ob q n hx) hc hx
    exact ⟨sl', e2⟩
  free := fun c ob q n hx => by
    obtain ⟨o', e1⟩ := a.there c ob q hx
    exact b.free c o' e1 (a.free c ob q n hx) hx
  there := fun c ob q hx => by
    obtain ⟨o', e1⟩ := a.there c ob q hx
    exact b.there c o' e1 hx
  tups := fun c xs q => b.tups c xs (a.tups c xs q)
  frzs := fun c ob xs q => b.frzs c ob xs (a.frzs c ob xs q)
  tbls := fun c ps q => by
    obtain ⟨m1, e1⟩ := a.tbls c ps q
    obtain ⟨m2, e2⟩ := b.tbls c _ e1
    exact ⟨m1 ++ m2, by rw [e2, Array.append_assoc]⟩
theorem Un.kept (k : ∀ b u, h.get? b = some u → h'.get? b = some u) : Un fs ex H H h h' :=
  ⟨fun b ob q _ _ _ => k b ob q, fun b ob q _ _ _ => ⟨ob.slots, k b ob q⟩, fun _ _ _ n _ => n, fun b ob q _ => ⟨ob, k b ob q⟩, fun _ _ q => q, fun _ _ _ q => q, fun _ ps q => ⟨#[], by rw [q]; simp⟩⟩
theorem Un.refl : Un fs ex H H h h := Un.kept fun _ _ q => q
theorem Un.laid (k : ∀ b u, h.get? b = some u → h'.get? b = some u) (hp : h.objs.size ≤ a) (hn : H a = none) : Un fs ex H (upd H a o) h h' where
  keep := fun b u q _ _ _ => k b u q
  slot := fun b u q _ _ _ => ⟨u.slots, k b u q⟩
  free := fun b u q n _ => by rw [upd_ne (Nat.ne_of_lt (Nat.lt_of_lt_of_le (Heap.lt_size q) hp))]; exact n
  there := fun b u q _ => ⟨u, k b u q⟩
  tups := fun b xs q => by rw [upd_ne (ne_of_none q hn)]; exact q
  frzs := fun b u xs q => by rw [upd_ne (ne_of_none q hn)]; exact q
  tbls := fun b ps q => ⟨#[], by rw [upd_ne (ne_of_none q hn), q]; simp⟩
theorem Un.write (mu : Mut (H x)) (he : e = x ∨ H e = some (.own x)) (k : ∀ b u, b ≠ e → h.get? b = some u → h'.get? b = some u) (heo : ∃ u, h'.get? e = some u) : Un fs ex H (upd H x o) h h' := by
  have hx : ∀ b, H b = none → b ≠ x := fun b n z => by subst z; rw [n] at mu; exact mu
  have hb : ∀ b, H b = none → b ≠ e := fun b n z => by
    subst z
    rcases he with r | r
    · exact hx b n r
    · rw [n] at r; cases r
  have hm : ∀ b u, H b = some u → ¬ Mut (some u) → b ≠ x := fun b u q nm z => by subst z; rw [q] at mu; exact nm mu
  refine ⟨fun b u q n _ _ => k b u (hb b n) q, fun b u q n _ _ => ⟨u.slots, k b u (hb b n) q⟩, fun b u q n _ => by rw [upd_ne (hx b n)]; exact n, fun b u q _ => ?_,
    fun b xs q => by rw [upd_ne (hm b _ q fun z => z)]; exact q, fun b u xs q => by rw [upd_ne (hm b _ q fun z => z)]; exact q, fun b ps q => ⟨#[], by rw [upd_ne (hm b _ q fun z => z), q]; simp⟩⟩
  by_cases hbe : b = e
  · subst hbe; exact heo
  · exact ⟨u, k b u hbe q⟩
theorem Un.mono (u : Un fs ex H H1 h h1) (hs : ∀ b ∈ fs, b ∈ fs') (hx : ∀ b ∈ ex, b ∈ ex') : Un fs' ex' H H1 h h1 :=
  ⟨fun b ob q n hb he => u.keep b ob q n (fun z => hb (hs b z)) fun z => he (hx b z), fun _ _ q n _ he => u.any q n fun z => he (hx _ z), fun b ob q n he => u.free b ob q n fun z => he (hx b z), fun b ob q he => u.there b ob q fun z => he (hx b z), u.tups, u.frzs, u.tbls⟩
end

/-! ### the heap without what is tracked -/
def trk (h : Heap) (H : Hp) : List Addr := (List.range h.objs.size).filter fun a => (H a).isSome
def hidT (h : Heap) (H : Hp) : Heap := PySem.W.hideAll h (trk h H)
theorem hidT_size (h : Heap) (H : Hp) : (hidT h H).objs.size = h.objs.size := PySem.W.hideAll_size _ _
theorem hidT_get {h : Heap} {H : Hp} {b : Addr} {o : Obj} (e : h.get? b = some o) (n : H b = none) : (hidT h H).get? b = some o :=
  PySem.W.hideAll_get _ e fun hm => by
    have q : (H b).isSome = true := (List.mem_filter.mp hm).2
    rw [n] at q; simp at q
theorem of_hidT {h : Heap} {H : Hp} {b : Addr} {o : Obj} (e : (hidT h H).get? b = some o) : h.get? b = some o ∧ H b = none := by
  have e' : h.get? b = some o := PySem.W.of_hideAll (trk h H) e
  refine ⟨e', ?_⟩
  cases q : H b with
  | none => rfl
  | some x =>
    have hm : b ∈ trk h H := List.mem_filter.mpr ⟨List.mem_range.mpr (Heap.lt_size e'), by simp [q]⟩
    have z : (hidT h H).get? b = none := PySem.W.hideAll_none (trk h H) hm
    rw [z] at e; cases e

/-! ### OpenK's ledger, filled with every new object but one -/
def allNews (g h : Heap) (L : Addr) : List (Addr × Obj) := (List.range h.objs.size).filterMap fun a => if a = L ∨ (g.get? a).isSome = true then none else (h.get? a).map fun o => (a, o)
theorem mem_allNews {g h : Heap} {L a : Addr} {o : Obj} (h1 : a ≠ L) (h2 : g.get? a = none) (h3 : h.get? a = some o) : (a, o) ∈ allNews g h L :=
  List.mem_filterMap.mpr ⟨a, List.mem_range.mpr (Heap.lt_size h3), by simp [h1, h2, h3]⟩
theorem of_mem_allNews {g h : Heap} {L : Addr} {p : Addr × Obj} (hp : p ∈ allNews g h L) : p.1 ≠ L ∧ g.get? p.1 = none ∧ h.get? p.1 = some p.2 := by
  obtain ⟨b, _, e⟩ := List.mem_filterMap.mp hp
  split at e
  · cases e
  · rename_i hn
    cases q : h.get? b with
    | none => rw [q] at e; simp at e
    | some u =>
      rw [q] at e
      simp only [Option.map_some, Option.some.injEq] at e
      subst e
      refine ⟨fun z => hn (.inl z), ?_, q⟩
      show g.get? b = none
      cases r : g.get? b with
      | none => rfl
      | some v => exact (hn (.inr (by simp [r]))).elim
def rest (g h : Heap) (L d : Addr) : List (Addr × Obj) := (allNews g h L).filter fun p => decide (p.1 ≠ d)
theorem rest_ne {g h : Heap} {L d : Addr} : ∀ p ∈ rest g h L d, p.1 ≠ d := fun p hp => of_decide_eq_true (List.mem_filter.mp hp).2
theorem mem_rest {g h : Heap} {L d a : Addr} {o : Obj} (h1 : a ≠ L) (h2 : g.get? a = none) (h3 : h.get? a = some o) (h4 : a ≠ d) : (a, o) ∈ rest g h L d :=
  List.mem_filter.mpr ⟨mem_allNews h1 h2 h3, decide_eq_true h4⟩
theorem news_all {g h : Heap} {L : Addr} : News g L h (allNews g h L) := fun p hp => let ⟨a, b, c⟩ := of_mem_allNews hp; ⟨c, a, b⟩
theorem news_at {g h : Heap} {L d : Addr} {o : Obj} (h1 : d ≠ L) (h2 : g.get? d = none) (h3 : h.get? d = some o) : News g L h ((d, o) :: rest g h L d) := fun p hp => by
  rcases List.mem_cons.mp hp with rfl | hp
  · exact ⟨h3, h1, h2⟩
  · exact news_all p (List.mem_filter.mp hp).1
/-- behind a rule that changed d alone: all else but the frame is kept -/
theorem kept_of_news {g h h' : Heap} {L d : Addr} {m : Str → Option Value} (k : ∀ b o, g.get? b = some o → h.get? b = some o) (F : Fr g L h' m) (N : News g L h' (rest g h L d)) :
    ∀ b o, b ≠ L → b ≠ d → h.get? b = some o → h'.get? b = some o := fun b o h1 h2 e => by
  cases q : g.get? b with
  | some u =>
    have := k b u q
    rw [e] at this; cases this
    exact F.keep b _ q
  | none => exact (N (b, o) (mem_rest h1 q e h2)).1
end L2

namespace L2
open PySem PySem.Spec PyProof.Rows

/-- the module's facts, over the base: the heap at the law's entry without what is tracked there -/
structure Mod (K : PySem.W.Frag) (mg : Str → Option Value) (base : Heap) : Prop where
  kin : K.In base
  glob : base.Ns mainGlobals mg
  blt : ∃ mb, base.Ns builtinsNs mb ∧ ∀ x : Str, x ≠ "__name__" → mb x = bootBuiltins x
  nolimit : base.NoLimit

/-- the context: a def's body (or a comprehension's block) running. base: fixed through the whole law; s₀, H₀: the entry; outer: the frames whose slots others may change (a def's callers); stack: all frames that run;
   ex: iterators that were made ahead of the entry and are walked here (a comprehension's); fn: the names whose cells were made at the entry (a def: all; a comprehension's block: its own); calm: not within an except suite; pn: pins that every state bears; xe: what is wanted of an exception that leaves the code -/
structure Cx where
  prog : Program
  w : World
  K : PySem.W.Frag
  mg : Str → Option Value
  base : Heap
  A : Around
  N : List Str
  s₀ : Shared
  H₀ : Hp
  env : Env
  outer : List Env
  stack : List Env
  ex : List Addr
  fn : Str → Bool
  calm : Bool
  pn : List (Addr × Obj)
  xe : Value → Shared → Prop
/-- the callers' frames -/
def frs (l : List Env) : List Addr := l.filterMap (·.frame)
abbrev Cx.fs (X : Cx) : List Addr := frs X.outer

def Vis (sc : Scope) (x : Str) : Prop := sc.names.lookup x = some .local ∨ sc.names.lookup x = some .cell ∨ sc.names.lookup x = some .free
def Loc (sc : Scope) (x : Str) : Prop := sc.names.lookup x = some .local ∨ sc.names.lookup x = some .cell
def Look (env : Env) (h : Heap) (m : Str → Option Value) (x : Str) (u : Value) : Prop :=
  (env.kindOf x = some .local ∧ m x = some u) ∨ ((env.kindOf x = some .cell ∨ env.kindOf x = some .free) ∧ ∃ c, env.cells.lookup x = some c ∧ h.IsCell c (some u))

structure Cx.Ok (X : Cx) : Prop where
  mod : Mod X.K X.mg X.base
  kind : X.env.scope.kind = .function
  glob : X.env.globals = mainGlobals
  blt : X.env.builtins = builtinsNs
  above : X.s₀.heap.objs.size ≤ X.env.locals
  inj : ∀ x y c, X.env.cells.lookup x = some c → X.env.cells.lookup y = some c → x = y
  has : ∀ x, (X.env.kindOf x = some .cell ∨ X.env.kindOf x = some .free) → ∃ c, X.env.cells.lookup x = some c
  cab : ∀ x c, X.fn x = true → X.env.cells.lookup x = some c → X.s₀.heap.objs.size ≤ c
  hd : X.calm = true → X.A.handled = none
  frames : X.A.frames = some X.stack
  stk : X.stack = X.outer ∨ (X.stack = X.env :: X.outer ∧ X.env.frame = some X.env.locals)
  exf : ∀ b ∈ X.ex, b ≠ X.env.locals ∧ ∀ x c, X.env.cells.lookup x = some c → c ≠ b
  bs : ∀ b o, X.base.get? b = some o → X.s₀.heap.get? b = some o ∧ X.H₀ b = none
  bsz : X.base.objs.size ≤ X.s₀.heap.objs.size
  noex : ∀ b o, X.base.get? b = some o → b ∉ X.ex
  exfs : ∀ b ∈ X.ex, b ∉ X.fs
  funs : X.s₀.heap.FunFrames X.base X.outer
  frf : ∀ b ∈ X.fs, X.H₀ b = none

structure Inv (X : Cx) (pins : List (Addr × Obj)) (σ : List (Option V)) (H : Hp) (s : Shared) : Prop where
  ok : X.Ok
  os : s.os = X.s₀.os
  bare : AllBare s.gens
  base : Un X.fs X.ex X.H₀ H X.s₀.heap s.heap
  loc : ∃ m, s.heap.Ns X.env.locals m ∧ ∀ (i : Nat) (x : Str) (v : V), X.N[i]? = some x → σ[i]? = some (some v) → Vis X.env.scope x → ∃ u, RelV v u ∧ Look X.env s.heap m x u
  cell : ∀ x c, X.env.cells.lookup x = some c → ∃ v, s.heap.IsCell c v
  free : H X.env.locals = none
  freeC : ∀ x c, X.env.cells.lookup x = some c → H c = none
  pin : ∀ p ∈ X.pn ++ pins, s.heap.get? p.1 = some p.2 ∧ H p.1 = none ∧ p.1 ≠ X.env.locals ∧ p.1 ∉ X.fs ∧ ∀ v, p.2.data ≠ .cell v
  hok : HOk X.prog X.w H s.heap
  len : σ.length = X.N.length

section
variable {X : Cx} {pins : List (Addr × Obj)} {σ : List (Option V)} {H H' : Hp} {s : Shared} {h' : Heap}

theorem Cx.Ok.nofr (ok : X.Ok) {b : Addr} {o : Obj} (e : X.base.get? b = some o) : b ∉ X.fs := fun hb => by
  have := (ok.funs.mem hb).1
  rw [e] at this; cases this
theorem Inv.bs (I : Inv X pins σ H s) : ∀ b o, X.base.get? b = some o → s.heap.get? b = some o ∧ H b = none := fun b o e =>
  ⟨I.base.keep b o (I.ok.bs b o e).1 (I.ok.bs b o e).2 (I.ok.nofr e) (I.ok.noex b o e), I.base.free b o (I.ok.bs b o e).1 (I.ok.bs b o e).2 (I.ok.noex b o e)⟩
theorem Inv.bk (I : Inv X pins σ H s) : ∀ b o, X.base.get? b = some o → s.heap.get? b = some o := fun b o e => (I.bs b o e).1
theorem Inv.mod (I : Inv X pins σ H s) : Mod X.K X.mg X.base := I.ok.mod
theorem Inv.kIn (I : Inv X pins σ H s) : X.K.In s.heap := I.ok.mod.kin.keeps I.bk
theorem Inv.nolimit (I : Inv X pins σ H s) : s.heap.NoLimit := I.ok.mod.nolimit.keeps I.bk
/-- the frame over the base: for OpenK's rules (K.In X.base is I.mod.kin) -/
theorem Inv.fr (I : Inv X pins σ H s) : ∃ m, Fr X.base X.env.locals s.heap m :=
  let ⟨m, hn, _⟩ := I.loc
  ⟨m, hn, I.bk, Nat.le_trans I.ok.bsz I.ok.above⟩
theorem Inv.lt (I : Inv X pins σ H s) : X.env.locals < s.heap.objs.size := let ⟨_, hn, _⟩ := I.loc; hn.lt
theorem Inv.sz (I : Inv X pins σ H s) : X.s₀.heap.objs.size ≤ s.heap.objs.size := Nat.le_trans I.ok.above (Nat.le_of_lt I.lt)
theorem Inv.nofs (I : Inv X pins σ H s) {a : Addr} (h : s.heap.objs.size ≤ a) : a ∉ X.fs := fun hb => by
  obtain ⟨_, o, ho, _⟩ := I.ok.funs.mem hb
  exact absurd (Nat.lt_of_lt_of_le (Heap.lt_size ho) (Nat.le_trans I.sz h)) (Nat.lt_irrefl _)
theorem Inv.cne (I : Inv X pins σ H s) : ∀ x c, X.env.cells.lookup x = some c → c ≠ X.env.locals := fun x c e z => by
  obtain ⟨v, o, ho, hd⟩ := I.cell x c e
  obtain ⟨m, ⟨o', es, ep, ho', hd', _⟩, _⟩ := I.loc
  rw [z, ho'] at ho; cases ho; rw [hd'] at hd; cases hd
theorem Inv.funs (I : Inv X pins σ H s) : s.heap.FunFrames X.base X.outer := by
  have all : ∀ (l : List Env), (∀ b ∈ frs l, b ∈ X.fs) → X.s₀.heap.FunFrames X.base l → s.heap.FunFrames X.base l := by
    intro l
    induction l with
    | nil => intro _ _; trivial
    | cons env r ih =>
      intro hs hl
      obtain ⟨hk, ⟨L, o, hf, hn, ho, hd⟩, hr⟩ := hl
      have hL : L ∈ X.fs := hs L (by unfold frs; rw [List.filterMap_cons, hf]; exact List.mem_cons_self)
      obtain ⟨sl, e⟩ := I.base.slot L o ho (I.ok.frf L hL) hL fun z => I.ok.exfs L z hL
      exact ⟨hk, ⟨L, _, hf, hn, e, hd⟩, ih (fun b hb => hs b (by unfold frs; rw [List.filterMap_cons, hf]; exact List.mem_cons_of_mem _ hb)) hr⟩
  exact all X.outer (fun _ hb => hb) I.ok.funs

/-- the frames that run, for a call -/
theorem Inv.stack (I : Inv X pins σ H s) : s.heap.FunFrames X.base X.stack := by
  rcases I.ok.stk with e | ⟨e, hf⟩
  · rw [e]; exact I.funs
  · rw [e]
    obtain ⟨m, hn, _⟩ := I.loc
    refine .cons (by rw [I.ok.kind]; decide) hf hn ?_ I.funs
    exact Heap.get?_none_of_le (Nat.le_trans I.ok.bsz I.ok.above)
theorem Inv.stkSub (I : Inv X pins σ H s) : ∀ b ∈ frs X.stack, b ∈ X.env.locals :: X.fs := fun b hb => by
  rcases I.ok.stk with e | ⟨e, hf⟩
  · rw [e] at hb; exact List.mem_cons_of_mem _ hb
  · rw [e] at hb
    unfold frs at hb
    rw [List.filterMap_cons, hf] at hb
    exact hb
theorem Inv.stkFree (I : Inv X pins σ H s) : ∀ b ∈ frs X.stack, H b = none := fun b hb => by
  rcases List.mem_cons.mp (I.stkSub b hb) with e | hb
  · rw [e]; exact I.free
  · obtain ⟨_, o, ho, _⟩ := I.ok.funs.mem hb
    exact I.base.free b o ho (I.ok.frf b hb) fun z => I.ok.exfs b z hb

/-- THE STEP: the untracked objects but the frame and the records at ch are kept (the callers' frames up to slots), the frame's map is kept, the new abstract heap is held -/
theorem Inv.step {g' : Array GenState} {t' : Nat} {d' : Drawn} {ch : List Addr} (I : Inv X pins σ H s)
    (hch : ∀ b ∈ ch, (b ∈ X.ex ∨ X.s₀.heap.objs.size ≤ b) ∧ b ≠ X.env.locals ∧ (∀ x c, X.env.cells.lookup x = some c → c ≠ b) ∧ ∀ p ∈ X.pn ++ pins, p.1 ≠ b)
    (keep : ∀ b o, b ≠ X.env.locals → b ∉ X.fs → b ∉ ch → s.heap.get? b = some o → H b = none → h'.get? b = some o)
    (slot : ∀ b o, b ≠ X.env.locals → b ∈ X.fs → b ∉ ch → s.heap.get? b = some o → H b = none → ∃ sl, h'.get? b = some { o with slots := sl }) (free : ∀ b o, b ∉ ch → s.heap.get? b = some o → H b = none → H' b = none)
    (there : ∀ b o, b ∉ ch → s.heap.get? b = some o → ∃ o', h'.get? b = some o')
    (tups : ∀ b xs, H b = some (.tup xs) → H' b = some (.tup xs)) (frzs : ∀ b o u, H b = some (.frz o u) → H' b = some (.frz o u)) (tbls : ∀ b ps, H b = some (.tbl ps) → ∃ more, H' b = some (.tbl (ps ++ more)))
    (ns : ∀ m, s.heap.Ns X.env.locals m → h'.Ns X.env.locals m) (hok : HOk X.prog X.w H' h') (hg : AllBare g') :
    Inv X pins σ H' { s with heap := h', gens := g', drawn := d', toks := t' } := by
  have neL : ∀ b o, X.s₀.heap.get? b = some o → b ≠ X.env.locals := fun b o e => Nat.ne_of_lt (Nat.lt_of_lt_of_le (Heap.lt_size e) I.ok.above)
  have neC : ∀ b o, X.s₀.heap.get? b = some o → b ∉ X.ex → b ∉ ch := fun b o e hx hb => by
    rcases (hch b hb).1 with z | z
    · exact hx z
    · exact absurd (Nat.lt_of_lt_of_le (Heap.lt_size e) z) (Nat.lt_irrefl _)
  have cellK : ∀ x c, X.env.cells.lookup x = some c → ∀ v, s.heap.IsCell c v → h'.IsCell c v := fun x c e v ⟨o, ho, hd⟩ => by
    have nch : c ∉ ch := fun z => (hch c z).2.2.1 x c e rfl
    by_cases hc : c ∈ X.fs
    · obtain ⟨sl, q⟩ := slot c o (I.cne x c e) hc nch ho (I.freeC x c e)
      exact ⟨_, q, hd⟩
    · exact ⟨o, keep c o (I.cne x c e) hc nch ho (I.freeC x c e), hd⟩
  refine ⟨I.ok, I.os, hg, ⟨fun b o e n hb hx => ?_, fun b o e n hb hx => ?_, fun b o e n hx => ?_, fun b o e hx => ?_, fun b xs e => tups b xs (I.base.tups b xs e), fun b o xs e => frzs b o xs (I.base.frzs b o xs e), fun b ps e => ?_⟩, ?_, fun x c e => ?_, ?_, fun x c e => ?_, fun p hp => ?_, hok, I.len⟩
  · exact keep b o (neL b o e) hb (neC b o e hx) (I.base.keep b o e n hb hx) (I.base.free b o e n hx)
  · obtain ⟨sl, e1⟩ := I.base.slot b o e n hb hx
    obtain ⟨sl', e2⟩ := slot b _ (neL b o e) hb (neC b o e hx) e1 (I.base.free b o e n hx)
    exact ⟨sl', e2⟩
  · obtain ⟨o', e1⟩ := I.base.there b o e hx
    exact free b o' (neC b o e hx) e1 (I.base.free b o e n hx)
  · obtain ⟨o', e1⟩ := I.base.there b o e hx
    exact there b o' (neC b o e hx) e1
  · obtain ⟨m1, e1⟩ := I.base.tbls b ps e
    obtain ⟨m2, e2⟩ := tbls b _ e1
    exact ⟨m1 ++ m2, by rw [e2, Array.append_assoc]⟩
  · obtain ⟨m, hn, hl⟩ := I.loc
    refine ⟨m, ns m hn, fun i x v e1 e2 e3 => ?_⟩
    obtain ⟨u, r, l⟩ := hl i x v e1 e2 e3
    refine ⟨u, r, ?_⟩
    rcases l with l | ⟨k, c, e, z⟩
    · exact .inl l
    · exact .inr ⟨k, c, e, cellK x c e _ z⟩
  · obtain ⟨v, z⟩ := I.cell x c e
    exact ⟨v, cellK x c e v z⟩
  · obtain ⟨m, ⟨o, _, _, ho, _⟩, _⟩ := I.loc
    exact free _ o (fun z => (hch _ z).2.1 rfl) ho I.free
  · obtain ⟨v, o, ho, hd⟩ := I.cell x c e
    exact free c o (fun z => (hch c z).2.2.1 x c e rfl) ho (I.freeC x c e)
  · obtain ⟨e, n, ne, nf, d⟩ := I.pin p hp
    have nch : p.1 ∉ ch := fun z => (hch p.1 z).2.2.2 p hp rfl
    exact ⟨keep p.1 p.2 ne nf nch e n, free p.1 p.2 nch e n, ne, nf, d⟩
/-- .. where the frame's own object is kept too -/
theorem Inv.un {t' : Nat} (I : Inv X pins σ H s) (u : Un X.fs [] H H' s.heap h') (hok : HOk X.prog X.w H' h') : Inv X pins σ H' { s with heap := h', toks := t' } := by
  obtain ⟨m, ⟨o, es, ep, ho, r⟩, _⟩ := id I.loc
  obtain ⟨sl, hL⟩ := u.any ho I.free (by simp)
  exact I.step (g' := s.gens) (d' := s.drawn) (ch := []) (fun _ z => nomatch z) (fun b o _ hb _ e n => u.keep b o e n hb (by simp)) (fun b o _ hb _ e n => u.slot b o e n hb (by simp)) (fun b o _ e n => u.free b o e n (by simp)) (fun b o _ e => u.there b o e (by simp)) u.tups u.frzs u.tbls (fun m' hm => by
    obtain ⟨o', es', ep', ho', r'⟩ := hm
    rw [ho] at ho'; cases ho'
    exact ⟨_, es', ep', hL, r'⟩) hok I.bare
/-- behind a call (or a comprehension's block): the slots of this frame may have changed too, the records at ch may have turned -/
theorem Inv.call {g' : Array GenState} {t' : Nat} {d' : Drawn} {ch : List Addr} (I : Inv X pins σ H s) (u : Un (frs X.stack) ch H H' s.heap h') (hok : HOk X.prog X.w H' h') (hg : AllBare g')
    (hch : ∀ b ∈ ch, (b ∈ X.ex ∨ X.s₀.heap.objs.size ≤ b) ∧ b ≠ X.env.locals ∧ (∀ x c, X.env.cells.lookup x = some c → c ≠ b) ∧ ∀ p ∈ X.pn ++ pins, p.1 ≠ b) :
    Inv X pins σ H' { s with heap := h', gens := g', drawn := d', toks := t' } := by
  obtain ⟨m, ⟨o, es, ep, ho, r⟩, _⟩ := id I.loc
  obtain ⟨sl, hL⟩ := u.any ho I.free fun z => (hch _ z).2.1 rfl
  exact I.step (ch := ch) hch (fun b o hL hb hc e n => u.keep b o e n (fun z => (List.mem_cons.mp (I.stkSub b z)).elim hL hb) hc) (fun b o _ _ hc e n => u.any e n hc) (fun b o hc e n => u.free b o e n hc) (fun b o hc e => u.there b o e hc) u.tups u.frzs u.tbls (fun m' hm => by
    obtain ⟨o', es', ep', ho', r'⟩ := hm
    rw [ho] at ho'; cases ho'
    exact ⟨_, es', ep', hL, r'⟩) hok hg
/-- an untracked record of ours (an iterator) has turned -/
theorem Inv.turned {t' : Nat} {it : Addr} (I : Inv X pins σ H s) (k : ∀ b o, b ≠ it → s.heap.get? b = some o → h'.get? b = some o) (hn : H it = none) (hL : it ≠ X.env.locals)
    (h1 : it ∈ X.ex ∨ X.s₀.heap.objs.size ≤ it) (h2 : ∀ x c, X.env.cells.lookup x = some c → c ≠ it) (h3 : ∀ p ∈ X.pn ++ pins, p.1 ≠ it) : Inv X pins σ H { s with heap := h', toks := t' } := by
  have nit : ∀ b u, H b = some u → b ≠ it := fun b u e z => by rw [z, hn] at e; cases e
  refine I.step (g' := s.gens) (d' := s.drawn) (ch := [it]) (fun b hb => ?_) (fun b o _ _ hc e _ => k b o (fun z => hc (by simp [z])) e) (fun b o _ _ hc e _ => ⟨o.slots, k b o (fun z => hc (by simp [z])) e⟩) (fun _ _ _ _ n => n)
    (fun b o hc e => ⟨o, k b o (fun z => hc (by simp [z])) e⟩) (fun _ _ e => e) (fun _ _ _ e => e) (fun b ps e => ⟨#[], by rw [e]; simp⟩) (fun m hm => ?_) (fun b u e => ?_) I.bare
  · have e : b = it := by simpa using hb
    subst e
    exact ⟨h1, hL, h2, h3⟩
  · obtain ⟨o, es, ep, ho, r⟩ := hm
    exact ⟨o, es, ep, k _ o (Ne.symm hL) ho, r⟩
  · refine (I.hok b u e).stay (fun c v hc q => k c v ?_ q) (fun _ q => q) fun _ _ q => q
    rcases hc with z | z
    · rw [z]; exact nit b u e
    · exact nit c _ z
theorem Inv.tok (I : Inv X pins σ H s) (t : Nat) : Inv X pins σ H { s with toks := t } := I.un (h' := s.heap) (t' := t) Un.refl I.hok
/-- all objects kept -/
theorem Inv.kept {t' : Nat} (I : Inv X pins σ H s) (k : ∀ b u, s.heap.get? b = some u → h'.get? b = some u) : Inv X pins σ H { s with heap := h', toks := t' } := I.un (Un.kept k) (I.hok.kept k)
/-- a new object laid and tracked -/
theorem Inv.laid {a : Addr} {o : HO} {t' : Nat} (I : Inv X pins σ H s) (k : ∀ b u, s.heap.get? b = some u → h'.get? b = some u) (hp : s.heap.objs.size ≤ a) (new : ObjOk X.prog X.w (upd H a o) h' a o) :
    Inv X pins σ (upd H a o) { s with heap := h', toks := t' } := I.un (Un.laid k hp (I.hok.fresh hp)) (I.hok.laid k hp new)
/-- an object written -/
theorem Inv.write {x e : Addr} {o : HO} {t' : Nat} (I : Inv X pins σ H s) (mu : Mut (H x)) (he : e = x ∨ H e = some (.own x)) (k : ∀ b u, b ≠ e → s.heap.get? b = some u → h'.get? b = some u) (heo : ∃ u, h'.get? e = some u)
    (new : ObjOk X.prog X.w (upd H x o) h' x o) : Inv X pins σ (upd H x o) { s with heap := h', toks := t' } := I.un (Un.write mu he k heo) (I.hok.write mu he k heo new)
/-- forgetting slots, pins -/
theorem Inv.weak {σ' : List (Option V)} (I : Inv X pins σ H s) (hl : σ'.length = σ.length) (w : ∀ (i : Nat) v, σ'[i]? = some (some v) → σ[i]? = some (some v)) : Inv X pins σ' H s :=
  ⟨I.ok, I.os, I.bare, I.base, let ⟨m, hn, hl'⟩ := I.loc; ⟨m, hn, fun i x v e1 e2 e3 => hl' i x v e1 (w i v e2) e3⟩, I.cell, I.free, I.freeC, I.pin, I.hok, hl.trans I.len⟩
theorem Inv.pins_of {pins' : List (Addr × Obj)} (I : Inv X pins σ H s) (h : ∀ p ∈ pins', s.heap.get? p.1 = some p.2 ∧ H p.1 = none ∧ p.1 ≠ X.env.locals ∧ p.1 ∉ X.fs ∧ ∀ v, p.2.data ≠ .cell v) : Inv X pins' σ H s :=
  ⟨I.ok, I.os, I.bare, I.base, I.loc, I.cell, I.free, I.freeC, fun p hp => (List.mem_append.mp hp).elim (fun z => I.pin p (List.mem_append_left _ z)) (h p), I.hok, I.len⟩

theorem nodup_ix {N : List Str} (hN : N.Nodup) {i j : Nat} {x : Str} (a : N[i]? = some x) (b : N[j]? = some x) : i = j := by
  obtain ⟨h1, e1⟩ := List.getElem?_eq_some_iff.mp a
  obtain ⟨h2, e2⟩ := List.getElem?_eq_some_iff.mp b
  exact (List.getElem_inj hN).mp (e1.trans e2.symm)

/-- a name is stored; what changed -/
theorem store_ok2 {M : Model} {A : Around} {E : Value → Shared → Prop} {i : Nat} {x : Str} {v : V} {u : Value} {Q : Unit → Shared → Prop} (I : Inv X pins σ H s) (hN : X.N.Nodup) (hi : X.N[i]? = some x) (hx : Loc X.env.scope x) (r : RelV v u)
    (h : ∀ s', Inv X pins (σ.set i (some v)) H s' → (∃ a, Heap.SameBut a s.heap s'.heap ∧ (a = X.env.locals ∨ X.env.cells.lookup x = some a)) → Q () s') (hf : X.fn x = true ∨ X.env.scope.names.lookup x = some .local := by first | exact .inl rfl | exact .inr rfl | assumption) : wpAny M A (storeName X.env x u) Q E s := by
  obtain ⟨m, hn, hl⟩ := id I.loc
  have hcls : (X.env.scope.kind == .class || (X.env.scope.kind == .module && X.env.locals != X.env.globals)) = false := by rw [I.ok.kind]; rfl
  have hiσ : i < σ.length := by rw [I.len]; exact (List.getElem?_eq_some_iff.mp hi).1
  have cne := I.cne
  have tracked : ∀ {a : Addr} {h' : Heap}, (∃ o, s.heap.get? a = some o ∧ H a = none) → Heap.SameBut a s.heap h' → HOk X.prog X.w H h' := fun {a h'} ha hs b ob e => by
    obtain ⟨_, _, hfree⟩ := ha
    refine (I.hok b ob e).stay (fun c w' hc q => (hs.2 c ?_).trans q) (fun _ q => q) fun _ _ q => q
    rintro rfl
    rcases hc with rfl | hc
    · rw [hfree] at e; cases e
    · rw [hfree] at hc; cases hc
  rcases hx with hk | hk
  · refine wpAny_storeName_local hk hn (fun h' hn' hs => ?_) hcls
    obtain ⟨oL, _, _, hoL, _⟩ := id hn
    refine h _ ⟨I.ok, I.os, I.bare, ⟨fun b o e n hb hx => ?_, fun b o e n hb hx => ?_, I.base.free, fun b o e hx => ?_, I.base.tups, I.base.frzs, I.base.tbls⟩, ⟨_, hn', fun j y v' e1 e2 e3 => ?_⟩, fun y c e => ?_, I.free, I.freeC, fun p hp => ?_, tracked ⟨oL, hoL, I.free⟩ hs, by simpa using I.len⟩ ⟨_, hs, .inl rfl⟩
    · exact (hs.2 b (Nat.ne_of_lt (Nat.lt_of_lt_of_le (Heap.lt_size e) I.ok.above))).trans (I.base.keep b o e n hb hx)
    · obtain ⟨sl, e1⟩ := I.base.slot b o e n hb hx
      exact ⟨sl, (hs.2 b (Nat.ne_of_lt (Nat.lt_of_lt_of_le (Heap.lt_size e) I.ok.above))).trans e1⟩
    · obtain ⟨o', e1⟩ := I.base.there b o e hx
      exact ⟨o', (hs.2 b (Nat.ne_of_lt (Nat.lt_of_lt_of_le (Heap.lt_size e) I.ok.above))).trans e1⟩
    · by_cases hj : j = i
      · subst hj
        rw [hi] at e1; cases e1
        rw [List.getElem?_set_self hiσ] at e2
        cases e2
        exact ⟨u, r, .inl ⟨hk, by simp⟩⟩
      · rw [List.getElem?_set_ne (Ne.symm hj)] at e2
        obtain ⟨u', r', q⟩ := hl j y v' e1 e2 e3
        refine ⟨u', r', ?_⟩
        rcases q with ⟨k, e⟩ | ⟨k, c, e, z⟩
        · refine .inl ⟨k, ?_⟩
          have : y ≠ x := fun e => hj (nodup_ix hN e1 (e ▸ hi))
          simp [this, e]
        · exact .inr ⟨k, c, e, z.sameBut hs (cne y c e)⟩
    · obtain ⟨w', z⟩ := I.cell y c e
      exact ⟨w', z.sameBut hs (cne y c e)⟩
    · obtain ⟨e, n, ne, nf, d⟩ := I.pin p hp
      exact ⟨(hs.2 p.1 ne).trans e, n, ne, nf, d⟩
  · have hfn : X.fn x = true := by
      rcases hf with z | z
      · exact z
      · rw [z] at hk; cases hk
    obtain ⟨c, hc⟩ := I.ok.has x (.inl hk)
    obtain ⟨w', z⟩ := I.cell x c hc
    refine wpAny_storeName_cell I.ok.kind hk hc z (fun h' hc' hs => ?_)
    obtain ⟨oc, hoc, hocd⟩ := id z
    refine h { s with heap := h' } ⟨I.ok, I.os, I.bare, ⟨fun b o e n hb hx => ?_, fun b o e n hb hx => ?_, I.base.free, fun b o e hx => ?_, I.base.tups, I.base.frzs, I.base.tbls⟩, ⟨m, hn.sameBut hs (Ne.symm (cne x c hc)), fun j y v' e1 e2 e3 => ?_⟩, fun y c' e => ?_, I.free, I.freeC, fun p hp => ?_, tracked ⟨oc, hoc, I.freeC x c hc⟩ hs, by simpa using I.len⟩ ⟨c, hs, .inr hc⟩
    · exact (hs.2 b (Nat.ne_of_lt (Nat.lt_of_lt_of_le (Heap.lt_size e) (I.ok.cab x c hfn hc)))).trans (I.base.keep b o e n hb hx)
    · obtain ⟨sl, e1⟩ := I.base.slot b o e n hb hx
      exact ⟨sl, (hs.2 b (Nat.ne_of_lt (Nat.lt_of_lt_of_le (Heap.lt_size e) (I.ok.cab x c hfn hc)))).trans e1⟩
    · obtain ⟨o', e1⟩ := I.base.there b o e hx
      exact ⟨o', (hs.2 b (Nat.ne_of_lt (Nat.lt_of_lt_of_le (Heap.lt_size e) (I.ok.cab x c hfn hc)))).trans e1⟩
    · by_cases hj : j = i
      · subst hj
        rw [hi] at e1; cases e1
        rw [List.getElem?_set_self hiσ] at e2
        cases e2
        exact ⟨u, r, .inr ⟨.inl hk, c, hc, hc'⟩⟩
      · rw [List.getElem?_set_ne (Ne.symm hj)] at e2
        obtain ⟨u', r', q⟩ := hl j y v' e1 e2 e3
        refine ⟨u', r', ?_⟩
        rcases q with q | ⟨k, c', e, z'⟩
        · exact .inl q
        · refine .inr ⟨k, c', e, z'.sameBut hs ?_⟩
          rintro rfl
          exact hj (nodup_ix hN e1 (I.ok.inj _ _ _ e hc ▸ hi))
    · by_cases hcc : c' = c
      · subst hcc; exact ⟨_, hc'⟩
      · obtain ⟨w2, z2⟩ := I.cell y c' e
        exact ⟨w2, z2.sameBut hs hcc⟩
    · obtain ⟨e, n, ne, nf, d⟩ := I.pin p hp
      refine ⟨(hs.2 p.1 ?_).trans e, n, ne, nf, d⟩
      intro q
      rw [q, hoc] at e
      have q' : oc = p.2 := Option.some.inj e
      exact d w' (by rw [← q']; exact hocd)
theorem store_ok {M : Model} {A : Around} {E : Value → Shared → Prop} {i : Nat} {x : Str} {v : V} {u : Value} {Q : Unit → Shared → Prop} (I : Inv X pins σ H s) (hN : X.N.Nodup) (hi : X.N[i]? = some x) (hx : Loc X.env.scope x) (r : RelV v u)
    (h : ∀ s', Inv X pins (σ.set i (some v)) H s' → Q () s') (hf : X.fn x = true ∨ X.env.scope.names.lookup x = some .local := by first | exact .inl rfl | exact .inr rfl | assumption) : wpAny M A (storeName X.env x u) Q E s :=
  store_ok2 I hN hi hx r (fun s' I' _ => h s' I') hf
/-- behind a call or a block, the state as it is -/
theorem Inv.call' {s' : Shared} {ch : List Addr} (I : Inv X pins σ H s) (ho : s'.os = s.os) (u : Un (frs X.stack) ch H H' s.heap s'.heap) (hok : HOk X.prog X.w H' s'.heap) (hg : AllBare s'.gens)
    (hch : ∀ b ∈ ch, (b ∈ X.ex ∨ X.s₀.heap.objs.size ≤ b) ∧ b ≠ X.env.locals ∧ (∀ x c, X.env.cells.lookup x = some c → c ≠ b) ∧ ∀ p ∈ X.pn ++ pins, p.1 ≠ b) : Inv X pins σ H' s' := by
  obtain ⟨h', g', d', t', o'⟩ := s'
  have e : o' = s.os := ho
  subst e
  exact I.call (g' := g') (t' := t') (d' := d') u hok hg hch
end

/-! ### the judgements -/
/-- an exception: its class, its own dict's address (where it has one), the abstract heap behind it -/
abbrev XK := Value → Option Addr → Hp → Prop
abbrev St := List (Option V)
abbrev VK := V → Hp → Prop
/-- an expression's reading; a test's; an argument list's -/
abbrev TE := St → Hp → VK → Prop
abbrev TT := St → Hp → (Bool → Hp → Prop) → Prop
abbrev TA := St → Hp → (List V → Hp → Prop) → Prop
/-- what is wanted behind a statement -/
structure Ends where
  nx : St → Hp → Prop
  rt : VK
  bk : St → Hp → Prop := fun _ _ => False
  ct : St → Hp → Prop := fun _ _ => False
abbrev TS := Ends → St → Hp → Prop

def EP (X : Cx) (pins : List (Addr × Obj)) (σ : St) (Q : VK) (u : Value) (s' : Shared) : Prop := ∃ v H', Inv X pins σ H' s' ∧ RelV v u ∧ Q v H'
def TP (X : Cx) (pins : List (Addr × Obj)) (σ : St) (Q : Bool → Hp → Prop) (b : Bool) (s' : Shared) : Prop := ∃ H', Inv X pins σ H' s' ∧ Q b H'
def AP (X : Cx) (pins : List (Addr × Obj)) (σ : St) (Q : List V → Hp → Prop) (us : List Value) (s' : Shared) : Prop := ∃ vs H', Inv X pins σ H' s' ∧ Vals vs us ∧ Q vs H'
def SP (X : Cx) (pins : List (Addr × Obj)) (D : Ends) (f : Flow) (s' : Shared) : Prop :=
  match f with
  | .next => ∃ σ' H', Inv X pins σ' H' s' ∧ D.nx σ' H'
  | .brk => ∃ σ' H', Inv X pins σ' H' s' ∧ D.bk σ' H'
  | .cont => ∃ σ' H', Inv X pins σ' H' s' ∧ D.ct σ' H'
  | .ret u => ∃ v σ' H', Inv X pins σ' H' s' ∧ RelV v u ∧ D.rt v H'

def PE (X : Cx) (e : Expr) (t : TE) : Prop :=
  ∀ (pins : List (Addr × Obj)) (s : Shared) (σ : St) (H : Hp) (Q : VK), Inv X pins σ H s → t σ H Q → wpAny (model X.prog X.w) X.A (eval e X.env) (EP X pins σ Q) X.xe s
def PT (X : Cx) (e : Expr) (t : TT) : Prop :=
  ∀ (pins : List (Addr × Obj)) (s : Shared) (σ : St) (H : Hp) (Q : Bool → Hp → Prop), Inv X pins σ H s → t σ H Q → wpAny (model X.prog X.w) X.A (isTrue e X.env (eval e X.env)) (TP X pins σ Q) X.xe s
/-- a test whatever its 'whole' is (and, or) -/
def PW (X : Cx) (e : Expr) (t : TT) : Prop :=
  ∀ (whole : Sem Value) (pins : List (Addr × Obj)) (s : Shared) (σ : St) (H : Hp) (Q : Bool → Hp → Prop), Inv X pins σ H s → t σ H Q → wpAny (model X.prog X.w) X.A (isTrue e X.env whole) (TP X pins σ Q) X.xe s
theorem PW.pt {X : Cx} {e : Expr} {t : TT} (h : PW X e t) : PT X e t := h _
/-- an argument list (no star), from the left -/
def PA (X : Cx) (es : List Expr) (t : TA) : Prop :=
  ∀ (pos : Pos) (pins : List (Addr × Obj)) (s : Shared) (σ : St) (H : Hp) (Q : List V → Hp → Prop), Inv X pins σ H s → t σ H Q → wpAny (model X.prog X.w) X.A (spliced (backTo pos (starEach es X.env))) (AP X pins σ Q) X.xe s
def PS (X : Cx) (st : Stmt) (t : TS) : Prop :=
  ∀ (pins : List (Addr × Obj)) (s : Shared) (σ : St) (H : Hp) (D : Ends), Inv X pins σ H s → t D σ H → wpAny (model X.prog X.w) X.A (exec st X.env) (SP X pins D) X.xe s
def PSs (X : Cx) (st : List Stmt) (t : TS) : Prop :=
  ∀ (pins : List (Addr × Obj)) (s : Shared) (σ : St) (H : Hp) (D : Ends), Inv X pins σ H s → t D σ H → wpAny (model X.prog X.w) X.A (execs st X.env) (SP X pins D) X.xe s
/-- weaken the end -/
theorem thn {α : Type} {t : Sem α} {Q Q' : α → Shared → Prop} {M : Model} {A : Around} {E : Value → Shared → Prop} {s : Shared} (h : wpAny M A t Q E s) (hQ : ∀ a s, Q a s → Q' a s) : wpAny M A t Q' E s := wpAny_mono h hQ fun _ _ x => x
end L2

namespace L2
open PySem PySem.Spec PyProof.Rows
section
variable {X : Cx}

/-- two expressions in a row -/
theorem bin {a b : Expr} {ta tb : TE} (ha : PE X a ta) (hb : PE X b tb) {pins : List (Addr × Obj)} {s : Shared} {σ : St} {H : Hp} {R : V → V → Hp → Prop} (I : Inv X pins σ H s) (h : ta σ H fun x H1 => tb σ H1 fun y H2 => R x y H2)
    {α : Type} {Q : α → Shared → Prop} {f : Value → Value → Sem α}
    (hf : ∀ v u s2 x y H2, Inv X pins σ H2 s2 → RelV x v → RelV y u → R x y H2 → wpAny (model X.prog X.w) X.A (f v u) Q X.xe s2) :
    wpAny (model X.prog X.w) X.A (eval a X.env) (fun v s₁ => wpAny (model X.prog X.w) X.A (eval b X.env) (fun u s₂ => wpAny (model X.prog X.w) X.A (f v u) Q X.xe s₂) X.xe s₁) X.xe s := by
  refine thn (ha pins s σ H _ I h) fun v s1 ⟨x, H1, I1, r1, q1⟩ => ?_
  refine thn (hb pins s1 σ H1 _ I1 q1) fun u s2 ⟨y, H2, I2, r2, q2⟩ => ?_
  exact hf v u s2 x y H2 I2 r1 r2 q2

/-! ### names and constants -/
def tVar (i : Nat) : TE := fun σ H Q => ∃ v, σ[i]? = some (some v) ∧ Q v H
def tC (v : V) : TE := fun _ H Q => Q v H
theorem pe_var {i : Nat} {x : Str} {pos : Pos} (hN : X.N[i]? = some x) (hv : Vis X.env.scope x) (hd : (x == ("__debug__" : Str)) = false := by decide) (hcd : (x == ("__classdict__" : Str)) = false := by decide) : PE X (.Name x pos) (tVar i) := by
  intro pins s σ H Q I h
  obtain ⟨v, e, h⟩ := h
  obtain ⟨m, hn, hl⟩ := I.loc
  obtain ⟨u, r, l⟩ := hl i x v hN e hv
  have fin : EP X pins σ Q u s := ⟨v, H, I, r, h⟩
  rcases l with ⟨hk, hm⟩ | ⟨hk, c, hc, hcell⟩
  · exact wpAny_Name (wpAny_loadName_local I.ok.kind hk hn hm fin) hd
  · rcases hk with hk | hk
    · exact wpAny_Name (wpAny_loadName_cell I.ok.kind hk hc hcell fin) hd
    · exact wpAny_Name (wpAny_loadName_free I.ok.kind hk hc hcell fin hcd) hd
theorem pe_int {i j pos} : PE X (.Constant (.int i) j pos) (tC (.int i)) := fun _ _ _ H _ I h => wpAny_Constant_int ⟨.int i, H, I.tok _, ⟨_, rfl⟩, h⟩
theorem pe_bl {b j pos} : PE X (.Constant (.bool b) j pos) (tC (.bl b)) := fun _ _ _ H _ I h => Constant_bool ⟨.bl b, H, I, rfl, h⟩
theorem pe_non {j pos} : PE X (.Constant .none j pos) (tC .non) := fun _ _ _ H _ I h => Constant_none ⟨.non, H, I, rfl, h⟩
theorem pe_str {x j pos} : PE X (.Constant (.str x) j pos) (tC (.str x)) := fun _ _ _ H _ I h => Calls.Constant_str ⟨.str x, H, I.tok _, ⟨_, rfl⟩, h⟩

/-- a global name of the def -/
def Gl (X : Cx) (x : Str) : Prop := X.env.kindOf x = some .globalImplicit
theorem ld_glob {E : Value → Shared → Prop} {pins : List (Addr × Obj)} {s : Shared} {σ : St} {H : Hp} {x : Str} {u : Value} {pos : Pos} {Q : Value → Shared → Prop} (I : Inv X pins σ H s) (hg : Gl X x) (hm : X.mg x = some u) (h : Q u s)
    (hd : (x == ("__debug__" : Str)) = false := by decide) : wpAny (model X.prog X.w) X.A (eval (.Name x pos) X.env) Q E s :=
  Calls.Name_function_global I.ok.kind hg (Calls.loadGlobal_global (by rw [I.ok.glob]; exact I.mod.glob.keeps I.bk) hm h) hd
theorem ld_blt {E : Value → Shared → Prop} {pins : List (Addr × Obj)} {s : Shared} {σ : St} {H : Hp} {x : Str} {u : Value} {pos : Pos} {Q : Value → Shared → Prop} (I : Inv X pins σ H s) (hg : Gl X x) (hm : X.mg x = none) (hv : bootBuiltins x = some u) (h : Q u s)
    (hn : x ≠ "__name__" := by decide) (hd : (x == ("__debug__" : Str)) = false := by decide) : wpAny (model X.prog X.w) X.A (eval (.Name x pos) X.env) Q E s := by
  obtain ⟨mb, h1, h2⟩ := I.mod.blt
  exact Calls.Name_function_global I.ok.kind hg (Calls.loadGlobal_builtin (by rw [I.ok.glob]; exact I.mod.glob.keeps I.bk) hm (by rw [I.ok.blt]; exact h1.keeps I.bk) ((h2 x hn).trans hv) h) hd
/-- a module's constant, a class, a function, as a value -/
theorem pe_glob {x : Str} {v : V} {u : Value} {pos : Pos} (hg : Gl X x) (hm : X.mg x = some u) (r : RelV v u) (hd : (x == ("__debug__" : Str)) = false := by decide) : PE X (.Name x pos) (tC v) :=
  fun _ _ _ H _ I h => ld_glob I hg hm ⟨v, H, I, r, h⟩ hd
theorem pe_bltn {x : Str} {v : V} {u : Value} {pos : Pos} (hg : Gl X x) (hm : X.mg x = none) (hv : bootBuiltins x = some u) (r : RelV v u) (hn : x ≠ "__name__" := by decide) (hd : (x == ("__debug__" : Str)) = false := by decide) : PE X (.Name x pos) (tC v) :=
  fun _ _ _ H _ I h => ld_blt I hg hm hv ⟨v, H, I, r, h⟩ hn hd

/-! ### arithmetic -/
/-- two ints -/
def t2I (ta tb : TE) (k : Int → Int → Hp → Prop) : St → Hp → Prop := fun σ H => ta σ H fun x H1 => tb σ H1 fun y H2 => ∃ i j, x = .int i ∧ y = .int j ∧ k i j H2
def tAdd (ta tb : TE) : TE := fun σ H Q => t2I ta tb (fun i j H2 => Q (.int (i + j)) H2) σ H
def tSub (ta tb : TE) : TE := fun σ H Q => t2I ta tb (fun i j H2 => Q (.int (i - j)) H2) σ H
/-- the left factor below 2^64 -/
def tMul (ta tb : TE) : TE := fun σ H Q => t2I ta tb (fun i j H2 => (-(2 ^ 64) < i ∧ i < 2 ^ 64) ∧ Q (.int (i * j)) H2) σ H
variable {a b : Expr} {ta tb : TE} {pos : Pos}
theorem pe_add (ha : PE X a ta) (hb : PE X b tb) : PE X (.BinOp a .Add b pos) (tAdd ta tb) := by
  intro pins s σ H Q I h
  refine wpAny_BinOp (bin ha hb I h fun v u s2 x y H2 I2 rx ry q => ?_)
  obtain ⟨i, j, rfl, rfl, q⟩ := q
  obtain ⟨t, rfl⟩ := rx
  obtain ⟨t', rfl⟩ := ry
  exact add_int ⟨.int _, H2, I2.tok _, ⟨_, rfl⟩, q⟩
theorem pe_sub (ha : PE X a ta) (hb : PE X b tb) : PE X (.BinOp a .Sub b pos) (tSub ta tb) := by
  intro pins s σ H Q I h
  refine wpAny_BinOp (bin ha hb I h fun v u s2 x y H2 I2 rx ry q => ?_)
  obtain ⟨i, j, rfl, rfl, q⟩ := q
  obtain ⟨t, rfl⟩ := rx
  obtain ⟨t', rfl⟩ := ry
  exact sub_int ⟨.int _, H2, I2.tok _, ⟨_, rfl⟩, q⟩
theorem pe_mul (ha : PE X a ta) (hb : PE X b tb) : PE X (.BinOp a .Mult b pos) (tMul ta tb) := by
  intro pins s σ H Q I h
  refine wpAny_BinOp (bin ha hb I h fun v u s2 x y H2 I2 rx ry q => ?_)
  obtain ⟨i, j, rfl, rfl, ⟨q1, q2⟩, q⟩ := q
  obtain ⟨t, rfl⟩ := rx
  obtain ⟨t', rfl⟩ := ry
  exact mul_int ⟨.int _, H2, I2.tok _, ⟨_, rfl⟩, q⟩ (.of_left (intBits_le_64 q1 q2))

/-! ### comparisons -/
def PC (X : Cx) (op : CmpOp) (a b : Expr) (t : TE) : Prop :=
  ∀ (pins : List (Addr × Obj)) (s : Shared) (σ : St) (H : Hp) (Q : VK), Inv X pins σ H s → t σ H Q →
    wpAny (model X.prog X.w) X.A (eval a X.env) (fun v s₁ => wpAny (model X.prog X.w) X.A (eval b X.env) (fun u s₂ => wpAny (model X.prog X.w) X.A (compareOp op v u) (EP X pins σ Q) X.xe s₂) X.xe s₁) X.xe s
theorem nobehind (b : Expr) {op : CmpOp} (h : op ≠ .In) (h2 : op ≠ .NotIn) : behindInMarks op b = false := by
  have e1 : (op == CmpOp.In) = false := by cases op <;> first | rfl | exact absurd rfl h
  have e2 : (op == CmpOp.NotIn) = false := by cases op <;> first | rfl | exact absurd rfl h2
  cases b <;> simp [behindInMarks, e1, e2]
def tCmp (p : Int → Int → Bool) (ta tb : TE) : TE := fun σ H Q => t2I ta tb (fun i j H2 => Q (.bl (p i j)) H2) σ H
abbrev tLt : TE → TE → TE := tCmp fun i j => decide (i < j)
abbrev tLe : TE → TE → TE := tCmp fun i j => decide (i ≤ j)
abbrev tGt : TE → TE → TE := tCmp fun i j => decide (j < i)
abbrev tGe : TE → TE → TE := tCmp fun i j => decide (j ≤ i)
abbrev tEqI : TE → TE → TE := tCmp fun i j => decide (i = j)
abbrev tNeI : TE → TE → TE := tCmp fun i j => !decide (i = j)
/-- a comparison of two ints, by its rule -/
theorem pc_int {op : CmpOp} {p : Int → Int → Bool} (ha : PE X a ta) (hb : PE X b tb)
    (rule : ∀ (i j : Int) (t u : Tok) (Q : Value → Shared → Prop) (s : Shared), Q (.bool (p i j)) s → wpAny (model X.prog X.w) X.A (compareOp op (.int i t) (.int j u)) Q X.xe s) : PC X op a b (tCmp p ta tb) := by
  intro pins s σ H Q I h
  refine bin ha hb I h fun v u s2 x y H2 I2 rx ry q => ?_
  obtain ⟨i, j, rfl, rfl, q⟩ := q
  obtain ⟨t, rfl⟩ := rx
  obtain ⟨t', rfl⟩ := ry
  exact rule i j t t' _ s2 ⟨.bl _, H2, I2, rfl, q⟩
theorem pc_lt (ha : PE X a ta) (hb : PE X b tb) : PC X .Lt a b (tLt ta tb) := pc_int ha hb fun _ _ _ _ _ _ h => lt_int h
theorem pc_le (ha : PE X a ta) (hb : PE X b tb) : PC X .LtE a b (tLe ta tb) := pc_int ha hb fun _ _ _ _ _ _ h => le_int h
theorem pc_gt (ha : PE X a ta) (hb : PE X b tb) : PC X .Gt a b (tGt ta tb) := pc_int ha hb fun _ _ _ _ _ _ h => gt_int h
theorem pc_ge (ha : PE X a ta) (hb : PE X b tb) : PC X .GtE a b (tGe ta tb) := pc_int ha hb fun _ _ _ _ _ _ h => ge_int h
theorem pc_eqI (ha : PE X a ta) (hb : PE X b tb) : PC X .Eq a b (tEqI ta tb) := pc_int ha hb fun _ _ _ _ _ _ h => eq_int (by rw [Bool.beq_eq_decide_eq]; exact h)
theorem pc_neI (ha : PE X a ta) (hb : PE X b tb) : PC X .NotEq a b (tNeI ta tb) := pc_int ha hb fun _ _ _ _ _ _ h => ne_int (by rw [bne, Bool.beq_eq_decide_eq]; exact h)
/-- is None -/
def tIsN (ta : TE) : TE := fun σ H Q => ta σ H fun x H1 => Q (.bl (decide (x = .non))) H1
def tNotN (ta : TE) : TE := fun σ H Q => ta σ H fun x H1 => Q (.bl (!decide (x = .non))) H1
theorem RelV.none_iff {x : V} {v : Value} (r : RelV x v) : (v == Value.none) = decide (x = .non) := by
  cases x with
  | non => cases r; rfl
  | bl _ => cases r; rfl
  | int _ => obtain ⟨t, rfl⟩ := r; rfl
  | str _ => obtain ⟨t, rfl⟩ := r; rfl
  | byt _ => obtain ⟨t, rfl⟩ := r; rfl
  | flt _ => obtain ⟨t, rfl⟩ := r; rfl
  | ref _ => cases r; rfl
  | ty _ => cases r; rfl
theorem pc_isN {j pos'} (ha : PE X a ta) : PC X .Is a (.Constant .none j pos') (tIsN ta) := by
  intro pins s σ H Q I h
  refine thn (ha pins s σ H _ I h) fun v s1 ⟨x, H1, I1, r1, q1⟩ => ?_
  exact Constant_none (is_none_gen ⟨.bl _, H1, I1, by rw [r1.none_iff]; rfl, q1⟩)
theorem pc_notN {j pos'} (ha : PE X a ta) : PC X .IsNot a (.Constant .none j pos') (tNotN ta) := by
  intro pins s σ H Q I h
  refine thn (ha pins s σ H _ I h) fun v s1 ⟨x, H1, I1, r1, q1⟩ => ?_
  exact Constant_none (isnot_none_gen ⟨.bl _, H1, I1, by rw [r1.none_iff]; rfl, q1⟩)
/-- a comparison as a value, as a test -/
def tB (t : TE) : TT := fun σ H Q => t σ H fun x H1 => ∃ c, x = .bl c ∧ Q c H1
theorem pe_cmp {op : CmpOp} {t : TE} (h : PC X op a b t) (h1 : behindInMarks op b = false := by first | exact nobehind _ (by decide) (by decide) | rfl) : PE X (.Compare a [op] [b] pos) t := fun pins s σ H Q I hw => wpAny_Compare1 (h pins s σ H Q I hw) h1
theorem pt_cmp {op : CmpOp} {t : TE} (h : PC X op a b t) (h1 : behindInMarks op b = false := by first | exact nobehind _ (by decide) (by decide) | rfl) : PT X (.Compare a [op] [b] pos) (tB t) := by
  intro pins s σ H Q I hw
  refine wpAny_isTrue_Compare1 (thn (h pins s σ H _ I hw) fun v s1 h1 => thn h1 fun u s2 h2 => thn h2 fun c s3 ⟨x, H1, I1, r1, q1⟩ => ?_) h1
  obtain ⟨d, rfl, q⟩ := q1
  cases r1
  exact wpAny_truthy_bool ⟨H1, I1, q⟩
/-- an expression whose value is a bool, as a test -/
theorem pt_val {e : Expr} {t : TE} (h : PE X e t) (he : ∀ whole, isTrue e X.env whole = (do let v ← whole; standAt e.pos; holding [v] (truthy v)) := by intro _; rfl) : PT X e (tB t) := by
  intro pins s σ H Q I hw
  refine isTrue_plain (thn (h pins s σ H _ I hw) fun v s1 ⟨x, H1, I1, r1, q1⟩ => ?_) (he _)
  obtain ⟨d, rfl, q⟩ := q1
  cases r1
  exact wpAny_truthy_bool ⟨H1, I1, q⟩

/-! ### and, or, not -/
variable {tA tB' : TT} {rest : List Expr}
def tAnd (t u : TT) : TT := fun σ H Q => t σ H fun c H1 => if c = true then u σ H1 Q else Q false H1
def tOr (t u : TT) : TT := fun σ H Q => t σ H fun c H1 => if c = true then Q true H1 else u σ H1 Q
def tNot (t : TT) : TT := fun σ H Q => t σ H fun c H1 => Q (!c) H1
theorem pw_and1 (ha : PT X a tA) : PW X (.BoolOp .And [a] pos) tA := by
  intro wh pins s σ H Q I h
  refine isTrue_and (thn (ha pins s σ H Q I h) fun c s1 e => ?_)
  cases c with
  | true => exact isTrue_and_nil e
  | false => exact e
theorem pw_or1 (ha : PT X a tA) : PW X (.BoolOp .Or [a] pos) tA := by
  intro wh pins s σ H Q I h
  refine isTrue_or (thn (ha pins s σ H Q I h) fun c s1 e => ?_)
  cases c with
  | false => exact isTrue_or_nil e
  | true => exact e
theorem pw_and (ha : PT X a tA) (hb : PW X (.BoolOp .And (b :: rest) pos) tB') : PW X (.BoolOp .And (a :: b :: rest) pos) (tAnd tA tB') := by
  intro wh pins s σ H Q I h
  refine isTrue_and (thn (ha pins s σ H _ I h) fun c s1 ⟨H1, I1, q1⟩ => ?_)
  cases c with
  | true => exact hb wh pins s1 σ H1 Q I1 q1
  | false => exact ⟨H1, I1, q1⟩
theorem pw_or (ha : PT X a tA) (hb : PW X (.BoolOp .Or (b :: rest) pos) tB') : PW X (.BoolOp .Or (a :: b :: rest) pos) (tOr tA tB') := by
  intro wh pins s σ H Q I h
  refine isTrue_or (thn (ha pins s σ H _ I h) fun c s1 ⟨H1, I1, q1⟩ => ?_)
  cases c with
  | true => exact ⟨H1, I1, q1⟩
  | false => exact hb wh pins s1 σ H1 Q I1 q1
theorem pt_not (ha : PT X a tA) : PT X (.UnaryOp .Not a pos) (tNot tA) := by
  intro pins s σ H Q I h
  exact isTrue_not (ha pins s σ H (fun c H1 => Q (!c) H1) I h)
/-- .. as values (bools) -/
def tAndV (ta tb : TE) : TE := fun σ H Q => ta σ H fun x H1 => ∃ c, x = .bl c ∧ if c = true then tb σ H1 Q else Q (.bl false) H1
def tOrV (ta tb : TE) : TE := fun σ H Q => ta σ H fun x H1 => ∃ c, x = .bl c ∧ if c = true then Q (.bl true) H1 else tb σ H1 Q
def tNotV (ta : TE) : TE := fun σ H Q => ta σ H fun x H1 => ∃ c, x = .bl c ∧ Q (.bl (!c)) H1
theorem pe_one {op} {t : TE} (h : PE X a t) : PE X (.BoolOp op [a] pos) t := fun pins s σ H Q I hw => BoolOp_one (h pins s σ H Q I hw)
theorem pe_and (ha : PE X a ta) (hb : PE X (.BoolOp .And (b :: rest) pos) tb) : PE X (.BoolOp .And (a :: b :: rest) pos) (tAndV ta tb) := by
  intro pins s σ H Q I h
  refine BoolOp_and (thn (ha pins s σ H _ I h) fun v s1 ⟨x, H1, I1, r1, q1⟩ => ?_)
  obtain ⟨c, rfl, q1⟩ := q1
  cases r1
  refine wpAny_truthy_bool ?_
  cases c with
  | true => exact hb pins s1 σ H1 Q I1 q1
  | false => exact ⟨.bl false, H1, I1, rfl, q1⟩
theorem pe_or (ha : PE X a ta) (hb : PE X (.BoolOp .Or (b :: rest) pos) tb) : PE X (.BoolOp .Or (a :: b :: rest) pos) (tOrV ta tb) := by
  intro pins s σ H Q I h
  refine BoolOp_or (thn (ha pins s σ H _ I h) fun v s1 ⟨x, H1, I1, r1, q1⟩ => ?_)
  obtain ⟨c, rfl, q1⟩ := q1
  cases r1
  refine wpAny_truthy_bool ?_
  cases c with
  | false => exact hb pins s1 σ H1 Q I1 q1
  | true => exact ⟨.bl true, H1, I1, rfl, q1⟩
theorem pe_not (ha : PE X a ta) : PE X (.UnaryOp .Not a pos) (tNotV ta) := by
  intro pins s σ H Q I h
  refine UnaryOp_ (thn (ha pins s σ H _ I h) fun v s1 ⟨x, H1, I1, r1, q1⟩ => ?_)
  obtain ⟨c, rfl, q1⟩ := q1
  cases r1
  exact not_of (wpAny_truthy_bool ⟨.bl (!c), H1, I1, rfl, q1⟩)
/-- a if t else b -/
def tIf (t : TT) (ta tb : TE) : TE := fun σ H Q => t σ H fun c H1 => if c = true then ta σ H1 Q else tb σ H1 Q
theorem pe_ifExp {c : Expr} (hc : PT X c tA) (ha : PE X a ta) (hb : PE X b tb) : PE X (.IfExp c a b pos) (tIf tA ta tb) := by
  intro pins s σ H Q I h
  refine wpAny_IfExp (thn (hc pins s σ H _ I h) fun d s1 ⟨H1, I1, q1⟩ => ?_)
  cases d with
  | true => exact ha pins s1 σ H1 Q I1 q1
  | false => exact hb pins s1 σ H1 Q I1 q1
end
end L2

namespace L2
open PySem PySem.Spec PyProof.Rows

/-! ### a list, a tuple that is read: tracked, frozen, or an object of the module -/
def SqL (K : PySem.W.Frag) (H : Hp) (a : Addr) (xs : List V) : Prop :=
  Rd H a (.lst xs) ∨
    ∃ (o : Obj) (its : Array Value) (n : Nat), K.lookup a = some o ∧ o.cls = .type "list" ∧ o.dict = none ∧ o.data = .seq its n ∧ its.size ≤ sizeLine ∧ Vals xs its.toList
def SqT (K : PySem.W.Frag) (H : Hp) (a : Addr) (xs : List V) : Prop :=
  Rd H a (.tup xs) ∨
    ∃ (o : Obj) (its : Array Value) (n : Nat), K.lookup a = some o ∧ o.cls = .type "tuple" ∧ o.data = .seq its n ∧ its.size ≤ sizeLine ∧ Vals xs its.toList
def absV : Value → Option V
  | .none => some .non
  | .bool b => some (.bl b)
  | .int i _ => some (.int i)
  | .str x _ => some (.str x)
  | .bytes b _ => some (.byt b)
  | .float b _ => some (.flt b)
  | .ref a => some (.ref a)
  | .type n => some (.ty n)
  | _ => none
theorem RelV.abs {x : V} {u : Value} (r : RelV x u) : absV u = some x := by
  cases x with
  | non => cases r; rfl
  | bl _ => cases r; rfl
  | int _ => obtain ⟨t, rfl⟩ := r; rfl
  | str _ => obtain ⟨t, rfl⟩ := r; rfl
  | byt _ => obtain ⟨t, rfl⟩ := r; rfl
  | flt _ => obtain ⟨t, rfl⟩ := r; rfl
  | ref _ => cases r; rfl
  | ty _ => cases r; rfl
theorem RelV.inj {x y : V} {u : Value} (r : RelV x u) (q : RelV y u) : x = y := Option.some.inj (r.abs.symm.trans q.abs)
theorem Vals.inj : ∀ {xs ys : List V} {us : List Value}, Vals xs us → Vals ys us → xs = ys
  | _, _, _, .nil, .nil => rfl
  | _, _, _, .cons r t, .cons r' t' => by rw [r.inj r', Vals.inj t t']
section
variable {X : Cx} {pins : List (Addr × Obj)} {σ : St} {H : Hp} {s : Shared} {a : Addr} {xs ys : List V}
theorem SqL.of {K : PySem.W.Frag} (h : H a = some (.lst xs)) : SqL K H a xs := .inl (.inl h)
theorem SqT.of {K : PySem.W.Frag} (h : H a = some (.tup xs)) : SqT K H a xs := .inl (.inl h)
theorem Inv.list (I : Inv X pins σ H s) (h : SqL X.K H a xs) : ∃ its : List Value, Vals xs its ∧ PlainL s.heap a its.toArray ∧ xs.length ≤ sizeLine := by
  rcases h with h | ⟨o, its, n, hk, hc, hd, hs, hz, r⟩
  · obtain ⟨z, its, n, r, e⟩ := h.ok I.hok
    exact ⟨its, r, ⟨_, n, e, rfl, rfl, rfl⟩, z⟩
  · refine ⟨its.toList, r, ⟨o, n, I.kIn a o hk, hc, hd, by simpa using hs⟩, ?_⟩
    have e := r.length
    simp only [Array.length_toList] at e
    omega
theorem Inv.tuple (I : Inv X pins σ H s) (h : SqT X.K H a xs) : ∃ its : List Value, Vals xs its ∧ IsTup s.heap a its.toArray ∧ xs.length ≤ sizeLine := by
  rcases h with h | ⟨o, its, n, hk, hc, hs, hz, r⟩
  · obtain ⟨z, its, r, p⟩ := h.ok I.hok
    exact ⟨its, r, p, z⟩
  · refine ⟨its.toList, r, ⟨o, I.kIn a o hk, hc, n, by simpa using hs⟩, ?_⟩
    have e := r.length
    simp only [Array.length_toList] at e
    omega
theorem Inv.list_inj (I : Inv X pins σ H s) (h : SqL X.K H a xs) (h' : SqL X.K H a ys) : xs = ys := by
  obtain ⟨its, r, ⟨o, n, e, _, _, d⟩, _⟩ := I.list h
  obtain ⟨its', r', ⟨o', n', e', _, _, d'⟩, _⟩ := I.list h'
  rw [e] at e'; cases e'
  rw [d] at d'
  injection d' with d1 _
  have : its = its' := by simpa using congrArg Array.toList d1
  subst this
  exact r.inj r'
theorem Inv.tuple_inj (I : Inv X pins σ H s) (h : SqT X.K H a xs) (h' : SqT X.K H a ys) : xs = ys := by
  obtain ⟨its, r, ⟨o, e, _, n, d⟩, _⟩ := I.tuple h
  obtain ⟨its', r', ⟨o', e', _, n', d'⟩, _⟩ := I.tuple h'
  rw [e] at e'; cases e'
  rw [d] at d'
  injection d' with d1 _
  have : its = its' := by simpa using congrArg Array.toList d1
  subst this
  exact r.inj r'
end

/-! ### another wish about exceptions -/
abbrev Cx.wish (X : Cx) (E : Value → Shared → Prop) : Cx := { X with xe := E }
/-- no exception leaves -/
abbrev Cx.nox (X : Cx) : Cx := X.wish fun _ _ => False
theorem Cx.Ok.wish {X : Cx} (ok : X.Ok) (E : Value → Shared → Prop) : (X.wish E).Ok :=
  ⟨ok.mod, ok.kind, ok.glob, ok.blt, ok.above, ok.inj, ok.has, ok.cab, ok.hd, ok.frames, ok.stk, ok.exf, ok.bs, ok.bsz, ok.noex, ok.exfs, ok.funs, ok.frf⟩
theorem Cx.Ok.unwish {X : Cx} {E : Value → Shared → Prop} (ok : (X.wish E).Ok) : X.Ok :=
  ⟨ok.mod, ok.kind, ok.glob, ok.blt, ok.above, ok.inj, ok.has, ok.cab, ok.hd, ok.frames, ok.stk, ok.exf, ok.bs, ok.bsz, ok.noex, ok.exfs, ok.funs, ok.frf⟩
section
variable {X : Cx} {pins : List (Addr × Obj)} {σ : St} {H : Hp} {s : Shared} {E : Value → Shared → Prop}
theorem Inv.wish (I : Inv X pins σ H s) (E : Value → Shared → Prop) : Inv (X.wish E) pins σ H s := ⟨I.ok.wish E, I.os, I.bare, I.base, I.loc, I.cell, I.free, I.freeC, I.pin, I.hok, I.len⟩
theorem Inv.unwish (I : Inv (X.wish E) pins σ H s) : Inv X pins σ H s := ⟨I.ok.unwish, I.os, I.bare, I.base, I.loc, I.cell, I.free, I.freeC, I.pin, I.hok, I.len⟩
theorem SP.unwish {D : Ends} {f : Flow} {s' : Shared} (h : SP (X.wish E) pins D f s') : SP X pins D f s' := by
  cases f with
  | next => obtain ⟨σ', H', I, q⟩ := h; exact ⟨σ', H', I.unwish, q⟩
  | brk => obtain ⟨σ', H', I, q⟩ := h; exact ⟨σ', H', I.unwish, q⟩
  | cont => obtain ⟨σ', H', I, q⟩ := h; exact ⟨σ', H', I.unwish, q⟩
  | ret u => obtain ⟨v, σ', H', I, r, q⟩ := h; exact ⟨v, σ', H', I.unwish, r, q⟩
theorem PE.nox {e : Expr} {t : TE} (h : PE X.nox e t) : PE X e t := fun pins s σ H Q I hw =>
  wpAny_mono (h pins s σ H Q (I.wish _) hw) (fun _ _ ⟨v, H', I', r, q⟩ => ⟨v, H', I'.unwish, r, q⟩) fun _ _ z => False.elim z
theorem PT.nox {e : Expr} {t : TT} (h : PT X.nox e t) : PT X e t := fun pins s σ H Q I hw =>
  wpAny_mono (h pins s σ H Q (I.wish _) hw) (fun _ _ ⟨H', I', q⟩ => ⟨H', I'.unwish, q⟩) fun _ _ z => False.elim z
theorem PSs.nox {st : List Stmt} {t : TS} (h : PSs X.nox st t) : PSs X st t := fun pins s σ H D I hw =>
  wpAny_mono (h pins s σ H D (I.wish _) hw) (fun _ _ q => q.unwish) fun _ _ z => False.elim z
end

/-! ### blocks and small statements -/
section
variable {X : Cx} {st : Stmt} {rest : List Stmt} {t u : TS} {e : Expr} {te : TE} {pos : Pos}
def tNext : TS := fun D σ H => D.nx σ H
def tSeq (t u : TS) : TS := fun D σ H => t { D with nx := u D } σ H
theorem pss_nil : PSs X [] tNext := fun _ _ σ H _ I h => wpAny_execs_nil ⟨σ, H, I, h⟩
theorem pss_cons (h1 : PS X st t) (h2 : PSs X rest u) : PSs X (st :: rest) (tSeq t u) := by
  intro pins s σ H D I h
  refine wpAny_execs_cons (thn (h1 pins s σ H { D with nx := u D } I h) fun f s1 q => ?_)
  cases f with
  | next =>
    obtain ⟨σ', H', I', q⟩ := q
    exact h2 pins s1 σ' H' D I' q
  | ret v => exact q
  | brk => exact q
  | cont => exact q
theorem pss_one (h1 : PS X st t) : PSs X [st] t := by
  intro pins s σ H D I h
  refine wpAny_execs_cons (thn (h1 pins s σ H D I h) fun f s1 q => ?_)
  cases f with
  | next => exact wpAny_execs_nil q
  | ret v => exact q
  | brk => exact q
  | cont => exact q
def tBreak : TS := fun D σ H => D.bk σ H
def tCont : TS := fun D σ H => D.ct σ H
theorem ps_pass : PS X (.Pass pos) tNext := fun _ _ σ H _ I h => wpAny_Pass ⟨σ, H, I, h⟩
theorem ps_break : PS X (.Break pos) tBreak := fun _ _ σ H _ I h => wpAny_Break ⟨σ, H, I, h⟩
theorem ps_continue : PS X (.Continue pos) tCont := fun _ _ σ H _ I h => wpAny_Continue ⟨σ, H, I, h⟩
/-- in a def's body nothing is shown -/
theorem Inv.quiet {pins : List (Addr × Obj)} {σ : St} {H : Hp} {s : Shared} (I : Inv X pins σ H s) : interactive X.env = false := by simp [interactive, I.ok.kind]
/-- a docstring -/
theorem ps_doc {x j pos pos'} : PS X (.Expr (.Constant (.str x) j pos) pos') tNext := fun _ s σ H _ I h => wpAny_Expr (Calls.Constant_str (show SP X _ _ .next { s with toks := s.toks + 1 } from ⟨σ, H, I.tok _, h⟩)) I.quiet
/-- an expression whose value is dropped -/
def tDrop (te : TE) : TS := fun D σ H => te σ H fun _ H1 => D.nx σ H1
theorem ps_expr (he : PE X e te) (hs : swapsWith e none pos.line X.env = pure false := by rfl) : PS X (.Expr e pos) (tDrop te) := by
  intro pins s σ H D I h
  exact wpAny_Expr_any (thn (he pins s σ H _ I h) fun v s1 ⟨x, H1, I1, r1, q1⟩ => ⟨σ, H1, I1, q1⟩) I.quiet hs
def tRet (te : TE) : TS := fun D σ H => te σ H D.rt
theorem ps_ret (he : PE X e te) : PS X (.Return (some e) pos) (tRet te) := by
  intro pins s σ H D I h
  exact wpAny_Return_some (thn (he pins s σ H _ I h) fun v s1 ⟨x, H1, I1, r1, q1⟩ => ⟨x, σ, H1, I1, r1, q1⟩)
def tRetN : TS := fun D _ H => D.rt .non H
theorem ps_retN : PS X (.Return none pos) tRetN := fun _ _ σ H _ I h => wpAny_Return_none ⟨.non, σ, H, I, rfl, h⟩
def tIfS (c : TT) (t u : TS) : TS := fun D σ H => c σ H fun b H1 => if b = true then t D σ H1 else u D σ H1
theorem ps_if {c : Expr} {a b : List Stmt} {tc : TT} (hc : PT X c tc) (ha : PSs X a t) (hb : PSs X b u) : PS X (.If c a b pos) (tIfS tc t u) := by
  intro pins s σ H D I h
  refine wpAny_If (thn (hc pins s σ H _ I h) fun d s1 ⟨H1, I1, q1⟩ => ?_)
  cases d with
  | true => exact ha pins s1 σ H1 D I1 q1
  | false => exact hb pins s1 σ H1 D I1 q1
/-- code that the proof never comes to -/
def tNever : TS := fun _ _ _ => False
theorem ps_never : PS X st tNever := fun _ _ _ _ _ _ h => h.elim
theorem pss_never {sts : List Stmt} : PSs X sts tNever := fun _ _ _ _ _ _ h => h.elim
end

/-! ### targets -/
abbrev TG := V → St → Hp → (St → Hp → Prop) → Prop
abbrev TGs := List V → St → Hp → (St → Hp → Prop) → Prop
def PG (X : Cx) (target : Expr) (t : TG) : Prop :=
  ∀ (pins : List (Addr × Obj)) (s : Shared) (σ : St) (H : Hp) (v : V) (u : Value) (Q : St → Hp → Prop), Inv X pins σ H s → RelV v u → t v σ H Q →
    wpAny (model X.prog X.w) X.A (assign target X.env u) (fun _ s' => ∃ σ' H', Inv X pins σ' H' s' ∧ Q σ' H') X.xe s
/-- several targets, one after another -/
def PGs (X : Cx) (ts : List Expr) (t : TGs) : Prop :=
  ∀ (pins : List (Addr × Obj)) (s : Shared) (σ : St) (H : Hp) (vs : List V) (us : List Value) (Q : St → Hp → Prop), Inv X pins σ H s → Vals vs us → t vs σ H Q →
    wpAny (model X.prog X.w) X.A (assignInOrder ((assignEach ts X.env).map (·.2)) us) (fun _ s' => ∃ σ' H', Inv X pins σ' H' s' ∧ Q σ' H') X.xe s
/-- o[i] = v, by values -/
abbrev TSet := V → V → V → Hp → (Hp → Prop) → Prop
def PSet (X : Cx) (t : TSet) : Prop :=
  ∀ (pins : List (Addr × Obj)) (s : Shared) (σ : St) (H : Hp) (o i v : V) (ov iv u : Value) (Q : Hp → Prop), Inv X pins σ H s → RelV o ov → RelV i iv → RelV v u → t o i v H Q →
    wpAny (model X.prog X.w) X.A (setItem ov iv u) (fun _ s' => ∃ H', Inv X pins σ H' s' ∧ Q H') X.xe s
/-- a op= b, by values -/
abbrev TIp := V → V → Hp → VK → Prop
def PIp (X : Cx) (op : Operator) (t : TIp) : Prop :=
  ∀ (pins : List (Addr × Obj)) (s : Shared) (σ : St) (H : Hp) (x y : V) (v u : Value) (Q : VK), Inv X pins σ H s → RelV x v → RelV y u → t x y H Q →
    wpAny (model X.prog X.w) X.A (inplaceOp op v u) (EP X pins σ Q) X.xe s
section
variable {X : Cx} {pos : Pos}
def gName (i : Nat) : TG := fun v σ H Q => Q (σ.set i (some v)) H
theorem pg_name {i : Nat} {x : Str} (hN : X.N.Nodup) (hi : X.N[i]? = some x) (hx : Loc X.env.scope x) (hf : X.fn x = true ∨ X.env.scope.names.lookup x = some .local := by first | exact .inl rfl | exact .inr rfl | assumption) : PG X (.Name x pos) (gName i) := by
  intro pins s σ H v u Q I r h
  exact wpAny_assign_Name (store_ok I hN hi hx r (fun s' I' => ⟨_, H, I', h⟩) hf)
def gNil : TGs := fun vs σ H Q => vs = [] ∧ Q σ H
def gCons (t : TG) (u : TGs) : TGs := fun vs σ H Q => ∃ v r, vs = v :: r ∧ t v σ H fun σ' H' => u r σ' H' Q
theorem pgs_nil : PGs X [] gNil := by
  intro pins s σ H vs us Q I r h
  obtain ⟨e, h⟩ := h
  subst e
  cases r
  exact assignInOrder_nil ⟨σ, H, I, h⟩
theorem pgs_cons {e : Expr} {es : List Expr} {t : TG} {u : TGs} (h1 : PG X e t) (h2 : PGs X es u)
    (hs : (assignEach (e :: es) X.env).map (·.2) = assign e X.env :: (assignEach es X.env).map (·.2) := by rfl) : PGs X (e :: es) (gCons t u) := by
  intro pins s σ H vs us Q I r h
  obtain ⟨v, vr, e1, h⟩ := h
  subst e1
  cases r with
  | cons r rr =>
    rw [hs]
    refine assignInOrder_cons (thn (h1 pins s σ H _ _ _ I r h) fun _ s1 ⟨σ1, H1, I1, q1⟩ => ?_)
    exact h2 pins s1 σ1 H1 _ _ Q I1 rr q1
/-- (a, b, ..) = a tuple of that length -/
def gTup (K : PySem.W.Frag) (n : Nat) (t : TGs) : TG := fun v σ H Q => ∃ a xs, v = .ref a ∧ SqT K H a xs ∧ xs.length = n ∧ t xs σ H Q
theorem pg_tup {es : List Expr} {k : Nat} {t : TGs} {n : Nat} (hc : X.calm = true) (h : PGs X es t)
    (hn : (assignEach es X.env).length = n := by rfl) (hst : (assignEach es X.env).findIdx? (·.1) = none := by rfl) : PG X (.Tuple es k pos) (gTup X.K n t) := by
  intro pins s σ H v u Q I r hw
  obtain ⟨a, xs, e1, hq, hl, hw⟩ := hw
  subst e1
  cases r
  obtain ⟨its, rv, ht, hz⟩ := I.tuple hq
  refine assign_Tuple_tuple (I.ok.hd hc) ht (by simp [hn, ← hl, rv.length]) hst fun h' hx => ?_
  have I1 : Inv X pins σ H { s with heap := h' } := I.kept (t' := s.toks) fun b o e => hx b o (Nat.ne_of_lt (Heap.lt_size e)) e
  exact h pins _ σ H xs _ Q I1 (by simpa using rv) hw
/-- o[i] = .. -/
def gSub (to ti : TE) (t : TSet) : TG := fun v σ H Q => to σ H fun o H1 => ti σ H1 fun i H2 => t o i v H2 fun H3 => Q σ H3
theorem pg_sub {o i : Expr} {to ti : TE} {t : TSet} (ho : PE X o to) (hi : PE X i ti) (hs : PSet X t)
    (ha : ∀ v, assign (.Subscript o i pos) X.env v = (do
      let ov ← holding [v] (eval o X.env)
      let iv ← holding [v, ov] (eval i X.env)
      standAt pos
      holding [v, ov, iv] (setItem ov iv v)
      release [v, ov, iv] []) := by intro _; rfl) : PG X (.Subscript o i pos) (gSub to ti t) := by
  intro pins s σ H v u Q I r h
  rw [ha]
  refine wpAny_bind (wpAny_holding (thn (ho pins s σ H _ I h) fun ov s1 ⟨x, H1, I1, r1, q1⟩ => ?_))
  refine wpAny_bind (wpAny_holding (thn (hi pins s1 σ H1 _ I1 q1) fun iv s2 ⟨y, H2, I2, r2, q2⟩ => ?_))
  refine wpAny_bind (wpAny_standAt (wpAny_bind (wpAny_holding (thn (hs pins s2 σ H2 x y v ov iv u _ I2 r1 r2 r q2) fun _ s3 ⟨H3, I3, q3⟩ => ?_))))
  exact wpAny_release ⟨σ, H3, I3, q3⟩
/-- target = value -/
def tAsg (te : TE) (g : TG) : TS := fun D σ H => te σ H fun x H1 => g x σ H1 D.nx
theorem ps_asg {tg e : Expr} {te : TE} {g : TG} (he : PE X e te) (hg : PG X tg g) (hs : swapsWithSole [tg] e pos.line X.env = pure false := by rfl) (hw : swappedStores [tg] e X.env = pure none := by rfl)
    (h1 : (assignEach [tg] X.env).map (·.2) = [assign tg X.env] := by rfl) : PS X (.Assign [tg] e pos) (tAsg te g) := by
  intro pins s σ H D I h
  refine wpAny_Assign_stores (thn (he pins s σ H _ I h) fun v s1 ⟨x, H1, I1, r1, q1⟩ => ?_) hs hw
  rw [h1]
  exact thn (hg pins s1 σ H1 x v _ I1 r1 q1) fun _ s2 q => q
/-- name = value -/
theorem ps_set {i : Nat} {x : Str} {e : Expr} {te : TE} {pos' : Pos} (hN : X.N.Nodup) (hi : X.N[i]? = some x) (hx : Loc X.env.scope x) (he : PE X e te) (hs : swapsWith e (some (.Name x pos')) pos.line X.env = pure false := by rfl) (hf : X.fn x = true ∨ X.env.scope.names.lookup x = some .local := by first | exact .inl rfl | exact .inr rfl | assumption) :
    PS X (.Assign [.Name x pos'] e pos) (tAsg te (gName i)) := by
  intro pins s σ H D I h
  refine wpAny_Assign_Name (thn (he pins s σ H _ I h) fun v s1 ⟨y, H1, I1, r1, q1⟩ => ?_) hs
  exact store_ok I1 hN hi hx r1 (fun s2 I2 => ⟨_, H1, I2, q1⟩) hf
/-- a, b = x, y with plain local names: stored from the right; the pair itself is not tracked (the opening rows as in PyProof/Rows/TupAssign.lean:23) -/
def tPar (i j : Nat) (ta : TA) : TS := fun D σ H => ta σ H fun vs H1 => ∃ v w, vs = [v, w] ∧ D.nx ((σ.set i (some v)).set j (some w)) H1
theorem ps_par {i j : Nat} {x y : Str} {a b : Expr} {ta : TA} {px py pt : Pos} {kt k2 pt2} (hc : X.calm = true) (hN : X.N.Nodup) (hi : X.N[i]? = some x) (hj : X.N[j]? = some y) (hij : i ≠ j)
    (hx : X.env.scope.names.lookup x = some .local) (hy : X.env.scope.names.lookup y = some .local) (ha : PA X [a, b] ta)
    (hw : swappedStores [.Tuple [.Name x px, .Name y py] kt pt] (.Tuple [a, b] k2 pt2) X.env = pure (some [x, y]))
    (hs : swapsWithSole [.Tuple [.Name x px, .Name y py] kt pt] (.Tuple [a, b] k2 pt2) pos.line X.env = pure false := by rfl) :
    PS X (.Assign [.Tuple [.Name x px, .Name y py] kt pt] (.Tuple [a, b] k2 pt2) pos) (tPar i j ta) := by
  intro pins s σ H D I h
  rw [exec_Assign_arm]
  refine wpAny_bind (wpAny_standAt ?_)
  rw [hs]
  refine wpAny_bind (wpAny_pure ?_)
  rw [if_neg (by decide)]
  refine wpAny_bind (Tuple_ (thn (ha _ pins s σ H _ I h) fun us s1 ⟨vs, H1, I1, r1, q1⟩ => ?_))
  obtain ⟨v, w, e1, q1⟩ := q1
  subst e1
  obtain ⟨u1, u2, rfl, rv, rw'⟩ : ∃ u1 u2, us = [u1, u2] ∧ RelV v u1 ∧ RelV w u2 := by
    cases r1 with
    | cons p q =>
      cases q with
      | cons p' q' =>
        cases q'
        exact ⟨_, _, rfl, p, p'⟩
  refine wpAny_newObj_type ?_ (by show 2 ≤ sizeLine; decide)
  have I2 : Inv X pins σ H1 { s1 with heap := s1.heap.push { cls := .type "tuple", data := .seq [u1, u2].toArray } } := I1.kept (t' := s1.toks) fun b o e => Heap.get?_push_of_some _ e
  rw [hw]
  refine wpAny_bind (wpAny_pure ?_)
  show wpAny (model X.prog X.w) X.A (do rule "assign.swapped-stores"; let items ← unpackItems (.ref s1.heap.objs.size) 2 none; assignInOrder [fun v => bindName X.env y v, fun v => bindName X.env x v] items.reverse; pure Flow.next) _ _ _
  refine wpAny_bind (wpAny_rule (wpAny_bind (unpackItems_tuple (items := #[u1, u2]) (I.ok.hd hc) (IsTup.new s1.heap _) fun h' hx' => ?_)))
  have I3 := I2.kept (h' := h') (t' := s1.toks) fun b o e => hx' b o (Nat.ne_of_lt (Heap.lt_size e)) e
  show wpAny _ _ (assignInOrder [fun v => bindName X.env y v, fun v => bindName X.env x v] [u2, u1] >>= fun _ => pure Flow.next) _ _ _
  refine wpAny_bind (assignInOrder_cons (wpAny_bindName (store_ok I3 hN hj (.inl hy) rw' (fun s2 I4 => ?_) (.inr hy))))
  refine assignInOrder_cons (wpAny_bindName (store_ok I4 hN hi (.inl hx) rv (fun s3 I5 => assignInOrder_nil (wpAny_pure ?_)) (.inr hx)))
  rw [List.set_comm _ _ (Ne.symm hij)] at I5
  exact ⟨_, H1, I5, q1⟩
/-- name op= e -/
def tAug (i : Nat) (te : TE) (ti : TIp) : TS := fun D σ H => ∃ x, σ[i]? = some (some x) ∧ te σ H fun y H1 => ti x y H1 fun z H2 => D.nx (σ.set i (some z)) H2
theorem ps_aug {i : Nat} {x : Str} {e : Expr} {te : TE} {op : Operator} {ti : TIp} {pos' : Pos} (hN : X.N.Nodup) (hi : X.N[i]? = some x) (hx : Loc X.env.scope x) (he : PE X e te) (ho : PIp X op ti) (hf : X.fn x = true ∨ X.env.scope.names.lookup x = some .local := by first | exact .inl rfl | exact .inr rfl | assumption) :
    PS X (.AugAssign (.Name x pos') op e pos) (tAug i te ti) := by
  intro pins s σ H D I h
  obtain ⟨v, e1, h⟩ := h
  obtain ⟨m, hn, hl⟩ := I.loc
  have vis : Vis X.env.scope x := by rcases hx with k | k; exact .inl k; exact .inr (.inl k)
  obtain ⟨u, r, l⟩ := hl i x v hi e1 vis
  refine wpAny_AugAssign_Name ?_
  have go : wpAny (model X.prog X.w) X.A (eval e X.env) (fun w s₂ => wpAny (model X.prog X.w) X.A (inplaceOp op u w) (fun r s₃ => wpAny (model X.prog X.w) X.A (storeName X.env x r) (fun _ => SP X pins D .next) X.xe s₃) X.xe s₂) X.xe s := by
    refine thn (he pins s σ H _ I h) fun w s1 ⟨y, H1, I1, r1, q1⟩ => ?_
    refine thn (ho pins s1 σ H1 v y u w _ I1 r r1 q1) fun z s2 ⟨zv, H2, I2, r2, q2⟩ => ?_
    exact store_ok I2 hN hi hx r2 (fun s3 I3 => ⟨_, H2, I3, q2⟩) hf
  rcases l with ⟨hk, hm⟩ | ⟨hk, c, hc, hcell⟩
  · exact wpAny_loadName_local I.ok.kind hk hn hm go
  · rcases hk with hk | hk
    · exact wpAny_loadName_cell I.ok.kind hk hc hcell go
    · rcases hx with k | k
      · have : X.env.scope.names.lookup x = some .free := hk
        rw [k] at this; cases this
      · have : X.env.scope.names.lookup x = some .free := hk
        rw [k] at this; cases this
/-- o[i] op= e -/
def tAugS (to ti te : TE) (tget : V → V → Hp → VK → Prop) (tip : TIp) (tset : TSet) : TS := fun D σ H => to σ H fun o H1 => ti σ H1 fun i H2 => tget o i H2 fun x H3 => te σ H3 fun y H4 => tip x y H4 fun z H5 => tset o i z H5 fun H6 => D.nx σ H6
/-- o[i], by values -/
def PGet (X : Cx) (t : V → V → Hp → VK → Prop) : Prop :=
  ∀ (pins : List (Addr × Obj)) (s : Shared) (σ : St) (H : Hp) (o i : V) (ov iv : Value) (Q : VK), Inv X pins σ H s → RelV o ov → RelV i iv → t o i H Q →
    wpAny (model X.prog X.w) X.A (getItem ov iv) (EP X pins σ Q) X.xe s
theorem ps_augS {o i e : Expr} {to ti te : TE} {tget : V → V → Hp → VK → Prop} {tip : TIp} {tset : TSet} {op : Operator} {tpos : Pos} (ho : PE X o to) (hi : PE X i ti) (hg : PGet X tget) (he : PE X e te) (hp : PIp X op tip) (hs : PSet X tset)
    (ha : ∀ ov iv new, augStore i ov iv new = (do holding [new, ov, iv] (setItem ov iv new); release [new, ov, iv] []; pure .next) := by intros; rfl) : PS X (.AugAssign (.Subscript o i tpos) op e pos) (tAugS to ti te tget tip tset) := by
  intro pins s σ H D I h
  refine wpAny_AugAssign_SubscriptAny (thn (ho pins s σ H _ I h) fun ov s1 ⟨x1, H1, I1, r1, q1⟩ => ?_) ha
  refine thn (hi pins s1 σ H1 _ I1 q1) fun iv s2 ⟨x2, H2, I2, r2, q2⟩ => ?_
  refine thn (hg pins s2 σ H2 x1 x2 ov iv _ I2 r1 r2 q2) fun old s3 ⟨x3, H3, I3, r3, q3⟩ => ?_
  refine thn (he pins s3 σ H3 _ I3 q3) fun v s4 ⟨x4, H4, I4, r4, q4⟩ => ?_
  refine thn (hp pins s4 σ H4 x3 x4 old v _ I4 r3 r4 q4) fun new s5 ⟨x5, H5, I5, r5, q5⟩ => ?_
  exact thn (hs pins s5 σ H5 x1 x2 x5 ov iv new _ I5 r1 r2 r5 q5) fun _ s6 ⟨H6, I6, q6⟩ => ⟨σ, H6, I6, q6⟩
/-- ints -/
def ipI (f : Int → Int → Int) : TIp := fun x y H Q => ∃ i j, x = .int i ∧ y = .int j ∧ Q (.int (f i j)) H
theorem ip_add : PIp X .Add (ipI fun i j => i + j) := by
  intro pins s σ H x y v u Q I r1 r2 h
  obtain ⟨i, j, e1, e2, q⟩ := h
  subst e1; subst e2
  obtain ⟨t, rfl⟩ := r1
  obtain ⟨t', rfl⟩ := r2
  exact iadd_int ⟨.int _, H, I.tok _, ⟨_, rfl⟩, q⟩
theorem ip_sub : PIp X .Sub (ipI fun i j => i - j) := by
  intro pins s σ H x y v u Q I r1 r2 h
  obtain ⟨i, j, e1, e2, q⟩ := h
  subst e1; subst e2
  obtain ⟨t, rfl⟩ := r1
  obtain ⟨t', rfl⟩ := r2
  exact isub_int ⟨.int _, H, I.tok _, ⟨_, rfl⟩, q⟩
end

/-! ### while -/
section
variable {X : Cx} {pos : Pos}
/-- the invariant W with its measure -/
def tWhile (c : TT) (tb : TS) : TS := fun D σ H => ∃ W : Nat → St → Hp → Prop, (∃ m, W m σ H) ∧ ∀ m σ H, W m σ H →
  c σ H fun b H1 => if b = true then ∃ N : St → Hp → Prop, (∀ σ' H', N σ' H' → ∃ m', m' < m ∧ W m' σ' H') ∧ tb { D with nx := N, ct := N, bk := D.nx } σ H1 else D.nx σ H1
theorem ps_while {c : Expr} {body : List Stmt} {tc : TT} {tb : TS} (hp : PassesOwn (model X.prog X.w) X.A X.env X.xe) (hc : PT X c tc) (hb : PSs X body tb) : PS X (.While c body [] pos) (tWhile tc tb) := by
  intro pins s σ H D I h
  obtain ⟨W, ⟨m0, w0⟩, turn⟩ := h
  refine wpAny_While (codeAny_whileLoop (fun n s' => ∃ σ' H', Inv X pins σ' H' s' ∧ W n σ' H') ?_ m0 ⟨σ, H, I, w0⟩)
  rintro n s1 ⟨σ1, H1, I1, w1⟩
  refine wpAny_passesOwn hp (thn (hc pins s1 σ1 H1 _ I1 (turn n σ1 H1 w1)) fun b s2 ⟨H2, I2, q2⟩ => ?_)
  cases b with
  | true =>
    obtain ⟨N, hN, q2⟩ := q2
    rw [if_pos rfl]
    refine wpAny_passesOwn hp (thn (hb pins s2 σ1 H2 _ I2 q2) fun f s3 q3 => ?_)
    cases f with
    | next =>
      obtain ⟨σ3, H3, I3, n3⟩ := q3
      obtain ⟨m', hm, w3⟩ := hN σ3 H3 n3
      exact ⟨m', hm, σ3, H3, I3, w3⟩
    | cont =>
      obtain ⟨σ3, H3, I3, n3⟩ := q3
      obtain ⟨m', hm, w3⟩ := hN σ3 H3 n3
      exact ⟨m', hm, σ3, H3, I3, w3⟩
    | brk => exact q3
    | ret v => exact q3
  | false =>
    rw [if_neg Bool.false_ne_true]
    exact wpAny_execs_nil ⟨σ1, H2, I2, q2⟩
end

/-! ### what a loop or a comprehension walks -/
/-- at turn i: it yields x (the heap may grow), or it stops -/
structure It where
  go : Nat → Hp → Prop
  yld : Nat → Hp → V → Hp → Prop
  stop : Nat → Hp → Prop
/-- the iterator's own objects may turn: they are not the frame's, not pinned, younger than the entry (or a comprehension's own) -/
def FpOk (X : Cx) (pins : List (Addr × Obj)) (H : Hp) (b : Addr) : Prop :=
  H b = none ∧ b ≠ X.env.locals ∧ b ∉ X.fs ∧ (b ∈ X.ex ∨ X.s₀.heap.objs.size ≤ b) ∧ (∀ x c, X.env.cells.lookup x = some c → c ≠ b) ∧ ∀ p ∈ X.pn ++ pins, p.1 ≠ b
theorem Inv.fpOk {X : Cx} {pins : List (Addr × Obj)} {σ : St} {H H' : Hp} {s : Shared} {b : Addr} (I : Inv X pins σ H s) (hb : s.heap.objs.size ≤ b) (hn : H' b = none) : FpOk X pins H' b := by
  refine ⟨hn, Nat.ne_of_gt (Nat.lt_of_lt_of_le I.lt hb), I.nofs hb, .inr (Nat.le_trans I.sz hb), fun x c e z => ?_, fun p hp z => ?_⟩
  · obtain ⟨v, q⟩ := I.cell x c e
    exact absurd (Nat.lt_of_lt_of_le q.lt (by rw [z]; exact hb)) (Nat.lt_irrefl _)
  · exact absurd (Nat.lt_of_lt_of_le (Heap.lt_size (I.pin p hp).1) (by rw [z]; exact hb)) (Nat.lt_irrefl _)
structure Turn (P : Program) (w : World) (K : PySem.W.Frag) (tg : Expr) (J : It) (fp : List Addr) (it : Addr) (tn : Nat → Heap → Prop) : Prop where
  mem : it ∈ fp
  obj : ∀ i h, tn i h → ∀ b ∈ fp, ∃ o, h.get? b = some o ∧ ∀ v, o.data ≠ .cell v
  keep : ∀ i h h', tn i h → (∀ b ∈ fp, ∀ o, h.get? b = some o → h'.get? b = some o) → tn i h'
  item : ∀ (X : Cx), X.prog = P → X.w = w → X.K = K → X.calm = true → ∀ (i : Nat) (pins : List (Addr × Obj)) (s : Shared) (σ : St) (H : Hp) (E : Value → Shared → Prop), Inv X pins σ H s → (∀ b ∈ fp, FpOk X pins H b) → tn i s.heap → J.go i H →
    wpAny (model P w) X.A (pyNext (.ref it)) (fun r s1 => ∃ u, r = some u ∧
      wpAny (model P w) X.A (letOwnedTupleGo tg (.ref it) u) (fun _ s2 => ∃ x H', Inv X pins σ H' s2 ∧ RelV x u ∧ J.yld i H x H' ∧ tn (i + 1) s2.heap ∧ ∀ b ∈ fp, H' b = none) E s1) E s
  done : ∀ (X : Cx), X.prog = P → X.w = w → X.K = K → X.calm = true → ∀ (i : Nat) (pins : List (Addr × Obj)) (s : Shared) (σ : St) (H : Hp) (E : Value → Shared → Prop), Inv X pins σ H s → (∀ b ∈ fp, FpOk X pins H b) → tn i s.heap → J.stop i H →
    wpAny (model P w) X.A (pyNext (.ref it)) (fun r s1 => r = none ∧ Inv X pins σ H s1) E s
  self : ∀ (A : Around) (i : Nat) (s : Shared) (Q : Value → Shared → Prop) (E : Value → Shared → Prop), tn i s.heap → Q (.ref it) s → wpAny (model P w) A (pyIter (.ref it)) Q E s
abbrev TI := St → Hp → (It → Hp → Prop) → Prop
/-- an iterator has come -/
def PIE (X : Cx) (pins : List (Addr × Obj)) (σ : St) (tg : Expr) (R : It → Hp → Prop) (itv : Value) (s2 : Shared) : Prop :=
  ∃ (it : Addr) (fp : List Addr) (tn : Nat → Heap → Prop) (J : It) (H' : Hp), itv = .ref it ∧ Inv X pins σ H' s2 ∧ Turn X.prog X.w X.K tg J fp it tn ∧ tn 0 s2.heap ∧ (∀ b ∈ fp, FpOk X pins H' b) ∧ R J H'
def PI (X : Cx) (tg iter : Expr) (wi : TI) : Prop :=
  ∀ (pins : List (Addr × Obj)) (s : Shared) (σ : St) (H : Hp) (R : It → Hp → Prop), Inv X pins σ H s → wi σ H R →
    wpAny (model X.prog X.w) X.A (eval iter X.env) (fun v s1 => wpAny (model X.prog X.w) X.A (pyIter v) (PIE X pins σ tg R) X.xe s1) X.xe s

/-- the step ahead of the store is nothing for an iterator that keeps no tuple -/
theorem go_of {M : Model} {A : Around} {E : Value → Shared → Prop} {s : Shared} {tg : Expr} {it : Addr} {u : Value} {o : Obj} {n : String} {vs : Array Value} {Q : Unit → Shared → Prop} (ho : s.heap.get? it = some o) (hc : o.cls = .type n) (hd : o.data = .fields vs)
    (hn : ["enumerate", "zip", "dict_itemiterator", "dict_reverseitemiterator", "odict_iterator", "itertools.zip_longest", "itertools.pairwise"].contains n = false) (hQ : Q () s) : wpAny M A (letOwnedTupleGo tg (.ref it) u) Q E s := by
  unfold letOwnedTupleGo
  cases tg <;> first
    | exact wpAny_pure hQ
    | (cases u <;> first
        | exact wpAny_pure hQ
        | (refine wpAny_bind (wpAny_load ho ?_)
           rw [hc, hd]
           show wpAny M A (if (["enumerate", "zip", "dict_itemiterator", "dict_reverseitemiterator", "odict_iterator", "itertools.zip_longest", "itertools.pairwise"].contains n && vs[0]? == some (rawInt _)) = true then _ else _) Q E s
           rw [if_neg (by intro h; rw [hn, Bool.false_and] at h; cases h)]
           exact wpAny_pure hQ))

/-- the list at a, as it stands at each turn (a loop may append to it) -/
def Itl (K : PySem.W.Frag) (a : Addr) : It :=
  ⟨fun i H => ∃ xs x, SqL K H a xs ∧ xs[i]? = some x, fun i H x H' => H' = H ∧ ∀ xs, SqL K H a xs → xs[i]? = some x, fun i H => ∃ xs, SqL K H a xs ∧ xs.length ≤ i⟩
def Itt (K : PySem.W.Frag) (a : Addr) : It :=
  ⟨fun i H => ∃ xs x, SqT K H a xs ∧ xs[i]? = some x, fun i H x H' => H' = H ∧ ∀ xs, SqT K H a xs → xs[i]? = some x, fun i H => ∃ xs, SqT K H a xs ∧ xs.length ≤ i⟩
/-- lo, lo + 1, .. (n of them) -/
def Itr (lo : Int) (n : Nat) : It := ⟨fun i _ => i < n, fun i H x H' => H' = H ∧ x = .int (lo + i), fun i _ => n ≤ i⟩
theorem turn_list {P : Program} {w : World} {K : PySem.W.Frag} {tg : Expr} (a it : Addr) : Turn P w K tg (Itl K a) [it] it (fun i h => h.IsListIter it a i) where
  mem := by simp
  obj := fun i h st b hb => by
    have e : b = it := by simpa using hb
    subst e
    obtain ⟨o, e, c, d⟩ := st
    exact ⟨o, e, fun v z => by rw [d] at z; cases z⟩
  keep := fun i h h' st k => st.at fun o e => k it (by simp) o e
  item := by
    intro X hP hw hK hc i pins s σ H E I hf st hg
    subst hP hw hK
    obtain ⟨xs, x, hq, hx⟩ := hg
    obtain ⟨its, rv, p, hz⟩ := I.list hq
    obtain ⟨u, hu, ru⟩ := rv.get hx
    obtain ⟨f0, f1, f2, f3, f4, f5⟩ := hf it (by simp)
    refine wpAny_pyNext_list_item st p.isList (x := u) (by simpa using hu) fun h' st' sb => ?_
    have I1 : Inv X pins σ H { s with heap := h' } := I.turned (t' := s.toks) (fun b o hb e => (sb.2 b hb).trans e) f0 f1 f3 f4 f5
    obtain ⟨o, e, c, d⟩ := id st'
    exact ⟨u, rfl, go_of (s := { s with heap := h' }) e c d (by decide) ⟨x, H, I1, ru, ⟨rfl, fun ys hy => by rw [I.list_inj hy hq]; exact hx⟩, st', fun b hb => (hf b hb).1⟩⟩
  done := by
    intro X hP hw hK hc i pins s σ H E I hf st hg
    subst hP hw hK
    obtain ⟨xs, hq, hx⟩ := hg
    obtain ⟨its, rv, p, hz⟩ := I.list hq
    obtain ⟨f0, f1, f2, f3, f4, f5⟩ := hf it (by simp)
    have hl := rv.length
    exact wpAny_pyNext_list_end (I.ok.hd hc) st p.isList (by simp; omega) fun h' eb => ⟨rfl, I.turned (t' := s.toks) (fun b o hb e => eb b o hb e) f0 f1 f3 f4 f5⟩
  self := fun _ _ _ _ _ st h => wpAny_pyIter_listiter st h
theorem turn_tuple {P : Program} {w : World} {K : PySem.W.Frag} {tg : Expr} (a it : Addr) : Turn P w K tg (Itt K a) [it] it (fun i h => h.IsTupleIter it a i) where
  mem := by simp
  obj := fun i h st b hb => by
    have e : b = it := by simpa using hb
    subst e
    obtain ⟨o, e, c, d⟩ := st
    exact ⟨o, e, fun v z => by rw [d] at z; cases z⟩
  keep := fun i h h' st k => st.at fun o e => k it (by simp) o e
  item := by
    intro X hP hw hK hc i pins s σ H E I hf st hg
    subst hP hw hK
    obtain ⟨xs, x, hq, hx⟩ := hg
    obtain ⟨its, rv, p, hz⟩ := I.tuple hq
    obtain ⟨u, hu, ru⟩ := rv.get hx
    obtain ⟨f0, f1, f2, f3, f4, f5⟩ := hf it (by simp)
    refine wpAny_pyNext_tuple_item st (show s.heap.IsTuple a its.toArray from p) (x := u) (by simpa using hu) fun h' st' sb => ?_
    have I1 : Inv X pins σ H { s with heap := h' } := I.turned (t' := s.toks) (fun b o hb e => (sb.2 b hb).trans e) f0 f1 f3 f4 f5
    obtain ⟨o, e, c, d⟩ := id st'
    exact ⟨u, rfl, go_of (s := { s with heap := h' }) e c d (by decide) ⟨x, H, I1, ru, ⟨rfl, fun ys hy => by rw [I.tuple_inj hy hq]; exact hx⟩, st', fun b hb => (hf b hb).1⟩⟩
  done := by
    intro X hP hw hK hc i pins s σ H E I hf st hg
    subst hP hw hK
    obtain ⟨xs, hq, hx⟩ := hg
    obtain ⟨its, rv, p, hz⟩ := I.tuple hq
    obtain ⟨f0, f1, f2, f3, f4, f5⟩ := hf it (by simp)
    have hl := rv.length
    exact wpAny_pyNext_tuple_end (I.ok.hd hc) st (show s.heap.IsTuple a its.toArray from p) (by simp; omega) fun h' eb => ⟨rfl, I.turned (t' := s.toks) (fun b o hb e => eb b o hb e) f0 f1 f3 f4 f5⟩
  self := fun _ _ _ _ _ st h => wpAny_pyIter_tupleiter st h
theorem turn_range {P : Program} {w : World} {K : PySem.W.Frag} {tg : Expr} (it : Addr) (lo : Int) (n : Nat) : Turn P w K tg (Itr lo n) [it] it (fun i h => IsRangeIter h it (lo + (i : Nat) * 1) ((n : Int) - (i : Nat)) 1) where
  mem := by simp
  obj := fun i h st b hb => by
    have e : b = it := by simpa using hb
    subst e
    exact ⟨_, st, fun v z => by
      have z' : Data.fields _ = Data.cell v := z
      cases z'⟩
  keep := fun i h h' st k => k it (by simp) _ st
  item := by
    intro X hP hw hK hc i pins s σ H E I hf st hg
    subst hP hw hK
    obtain ⟨f0, f1, f2, f3, f4, f5⟩ := hf it (by simp)
    have W := Walks.range (prog := X.prog) (w := X.w) (I.ok.hd hc) it lo 1 n
    refine W.item i s _ _ hg st fun v h' tk hv st' kk => ?_
    obtain ⟨t, rfl⟩ := hv
    have I1 : Inv X pins σ H { s with heap := h', toks := tk } := I.turned (fun b o hb e => kk b o (by simpa using hb) e) f0 f1 f3 f4 f5
    refine ⟨_, rfl, go_of (s := { s with heap := h', toks := tk }) (n := "range_iterator") st' rfl rfl (by decide) ⟨.int (lo + i), H, I1, ⟨t, ?_⟩, ⟨rfl, rfl⟩, st', fun b hb => (hf b hb).1⟩⟩
    rw [Int.mul_one]
  done := by
    intro X hP hw hK hc i pins s σ H E I hf st hg
    subst hP hw hK
    obtain ⟨f0, f1, f2, f3, f4, f5⟩ := hf it (by simp)
    exact wpAny_pyNext_range_end (I.ok.hd hc) st (by have : n ≤ i := hg; omega) fun h' eb => ⟨rfl, I.turned (t' := s.toks) (fun b o hb e => eb b o hb e) f0 f1 f3 f4 f5⟩
  self := fun _ _ _ _ _ st h => wpAny_pyIter_rangeiter st h
end L2

namespace L2
open PySem PySem.Spec PyProof.Rows
section
variable {X : Cx} {tg : Expr}
def iList (K : PySem.W.Frag) (tl : TE) : TI := fun σ H R => tl σ H fun x H1 => ∃ a, x = .ref a ∧ (∃ xs, SqL K H1 a xs) ∧ R (Itl K a) H1
def iTup (K : PySem.W.Frag) (tl : TE) : TI := fun σ H R => tl σ H fun x H1 => ∃ a, x = .ref a ∧ (∃ xs, SqT K H1 a xs) ∧ R (Itt K a) H1
theorem pi_list {l : Expr} {tl : TE} (hl : PE X l tl) : PI X tg l (iList X.K tl) := by
  intro pins s σ H R I h
  refine thn (hl pins s σ H _ I h) fun v s1 ⟨x, H1, I1, r1, q1⟩ => ?_
  obtain ⟨a, e, ⟨xs, hq⟩, q⟩ := q1
  subst e
  cases r1
  obtain ⟨its, rv, p, hz⟩ := I1.list hq
  refine wpAny_pyIter_list p.isList ?_
  refine ⟨s1.heap.objs.size, [s1.heap.objs.size], _, _, H1, rfl, I1.kept (t' := s1.toks) fun b o e => Heap.get?_push_of_some _ e, turn_list a _, ⟨_, Heap.get?_push_size _ rfl, rfl, rfl⟩, fun b hb => ?_, q⟩
  have e : b = s1.heap.objs.size := by simpa using hb
  subst e
  exact I1.fpOk (Nat.le_refl _) (I1.hok.fresh (Nat.le_refl _))
theorem pi_tup {l : Expr} {tl : TE} (hl : PE X l tl) : PI X tg l (iTup X.K tl) := by
  intro pins s σ H R I h
  refine thn (hl pins s σ H _ I h) fun v s1 ⟨x, H1, I1, r1, q1⟩ => ?_
  obtain ⟨a, e, ⟨xs, hq⟩, q⟩ := q1
  subst e
  cases r1
  obtain ⟨its, rv, p, hz⟩ := I1.tuple hq
  refine wpAny_pyIter_tuple (show s1.heap.IsTuple a its.toArray from p) ?_
  refine ⟨s1.heap.objs.size, [s1.heap.objs.size], _, _, H1, rfl, I1.kept (t' := s1.toks) fun b o e => Heap.get?_push_of_some _ e, turn_tuple a _, ⟨_, Heap.get?_push_size _ rfl, rfl, rfl⟩, fun b hb => ?_, q⟩
  have e : b = s1.heap.objs.size := by simpa using hb
  subst e
  exact I1.fpOk (Nat.le_refl _) (I1.hok.fresh (Nat.le_refl _))
/-- a range object just made, walked -/
theorem range_it {pins : List (Addr × Obj)} {σ : St} {H : Hp} {s : Shared} {R : It → Hp → Prop} {E : Value → Shared → Prop} {lo hi : Int} {t u v : Tok} {tk : Nat} (I : Inv X pins σ H s) (h1 : -(2 ^ 62) ≤ lo) (h2 : lo < 2 ^ 62) (h3 : -(2 ^ 62) ≤ hi) (h4 : hi < 2 ^ 62)
    (q : R (Itr lo (hi - lo).toNat) H) : wpAny (model X.prog X.w) X.A (pyIter (.ref s.heap.objs.size)) (PIE X pins σ tg R) E { s with heap := s.heap.push { cls := .type "range", data := .fields #[.int lo t, .int hi u, .int 1 v] }, toks := tk } := by
  refine wpAny_pyIter_range (IsRange.new ..) (small_one h1 h2 h3 h4) ?_
  have I1 : Inv X pins σ H { s with heap := s.heap.push { cls := .type "range", data := .fields #[.int lo t, .int hi u, .int 1 v] }, toks := tk } := I.kept fun b o e => Heap.get?_push_of_some _ e
  refine ⟨(s.heap.push { cls := .type "range", data := .fields #[.int lo t, .int hi u, .int 1 v] }).objs.size, [(s.heap.push { cls := .type "range", data := .fields #[.int lo t, .int hi u, .int 1 v] }).objs.size], _, _, H, rfl,
    I1.kept (t' := tk) fun b o e => Heap.get?_push_of_some _ e, turn_range _ lo (hi - lo).toNat, ?_, fun b hb => ?_, q⟩
  · have e1 : lo + ((0 : Nat) : Int) * 1 = lo := by simp
    have e2 : (((hi - lo).toNat : Nat) : Int) - ((0 : Nat) : Int) = Builtin.Range.rangeSize lo hi 1 := by rw [rangeSize_one]; split <;> omega
    show IsRangeIter _ _ (lo + ((0 : Nat) : Int) * 1) ((((hi - lo).toNat : Nat) : Int) - ((0 : Nat) : Int)) 1
    rw [e1, e2]
    exact Heap.get?_push_size _ rfl
  · have e : b = (s.heap.push { cls := .type "range", data := .fields #[.int lo t, .int hi u, .int 1 v] }).objs.size := by simpa using hb
    subst e
    exact I1.fpOk (Nat.le_refl _) (I1.hok.fresh (Nat.le_refl _))
def iRng1 (ta : TA) : TI := fun σ H R => ta σ H fun vs H1 => ∃ j : Int, vs = [.int j] ∧ -(2 ^ 62) ≤ j ∧ j < 2 ^ 62 ∧ R (Itr 0 j.toNat) H1
def iRng2 (ta : TA) : TI := fun σ H R => ta σ H fun vs H1 => ∃ i j : Int, vs = [.int i, .int j] ∧ (-(2 ^ 62) ≤ i ∧ i < 2 ^ 62 ∧ -(2 ^ 62) ≤ j ∧ j < 2 ^ 62) ∧ R (Itr i (j - i).toNat) H1
theorem pi_range1 {a : Expr} {ta : TA} {p pos : Pos} (hg : Gl X "range") (hm : X.mg "range" = none) (ha : PA X [a] ta) (hs : starEach [a] X.env = [(false, eval a X.env)] := by rfl) : PI X tg (.Call (.Name "range" p) [a] [] pos) (iRng1 ta) := by
  intro pins s σ H R I h
  refine Call_ (ld_blt I hg hm boot_range (PyProof.Rows.callWith_type1 (thn (ha pos pins s σ H _ I h) fun us s1 ⟨vs, H1, I1, r1, q1⟩ => ?_) hs rfl))
  obtain ⟨j, e, q1, q2, q⟩ := q1
  subst e
  cases r1 with
  | cons r rr =>
    cases rr
    obtain ⟨t, rfl⟩ := r
    exact call_range_1 (range_it I1 (by omega) (by omega) q1 q2 (by simpa using q))
theorem pi_range2 {a b : Expr} {ta : TA} {p pos : Pos} (hg : Gl X "range") (hm : X.mg "range" = none) (ha : PA X [a, b] ta) (hs : starEach [a, b] X.env = [(false, eval a X.env), (false, eval b X.env)] := by rfl) (hs2 : starEach [b] X.env = [(false, eval b X.env)] := by rfl) :
    PI X tg (.Call (.Name "range" p) [a, b] [] pos) (iRng2 ta) := by
  intro pins s σ H R I h
  refine Call_ (ld_blt I hg hm boot_range (PyProof.Rows.callWith_type1 (thn (ha pos pins s σ H _ I h) fun us s1 ⟨vs, H1, I1, r1, q1⟩ => ?_) (by rw [hs, hs2]) (by rw [hs2]; rfl)))
  obtain ⟨i, j, e, ⟨q1, q2, q3, q4⟩, q⟩ := q1
  subst e
  cases r1 with
  | cons r rr =>
    cases rr with
    | cons r' rr =>
      cases rr
      obtain ⟨t, rfl⟩ := r
      obtain ⟨t', rfl⟩ := r'
      exact call_range_2 (range_it I1 q1 q2 q3 q4 q)

/-! ### for -/
/-- W: the invariant by the turn and a measure; N: what the body is to reach -/
def tFor (wi : TI) (g : TG) (tb : TS) : TS := fun D σ H => wi σ H fun J H1 => ∃ W : Nat → Nat → St → Hp → Prop, (∃ m, W 0 m σ H1) ∧ ∀ i m σ H, W i m σ H →
  (J.stop i H ∧ D.nx σ H) ∨ (J.go i H ∧ ∃ N : St → Hp → Prop, (∀ σ' H', N σ' H' → ∃ m', m' < m ∧ W (i + 1) m' σ' H') ∧ ∀ x H', J.yld i H x H' → g x σ H' fun σ2 H2 => tb { D with nx := N, ct := N, bk := D.nx } σ2 H2)
/-- the records at fp as they stand -/
def pinsAt (fp : List Addr) (h : Heap) : List (Addr × Obj) := fp.filterMap fun b => (h.get? b).map fun o => (b, o)
theorem mem_pinsAt {fp : List Addr} {h : Heap} {b : Addr} {o : Obj} (hb : b ∈ fp) (e : h.get? b = some o) : (b, o) ∈ pinsAt fp h := List.mem_filterMap.mpr ⟨b, hb, by rw [e]; rfl⟩
theorem of_pinsAt {fp : List Addr} {h : Heap} {p : Addr × Obj} (hp : p ∈ pinsAt fp h) : p.1 ∈ fp ∧ h.get? p.1 = some p.2 := by
  obtain ⟨b, hb, e⟩ := List.mem_filterMap.mp hp
  cases q : h.get? b with
  | none => rw [q] at e; cases e
  | some o =>
    rw [q] at e
    have e' : (b, o) = p := Option.some.inj e
    subst e'
    exact ⟨hb, q⟩
theorem Inv.pinned {pins : List (Addr × Obj)} {σ : St} {H : Hp} {s : Shared} {fp : List Addr} (I : Inv X pins σ H s) (hf : ∀ b ∈ fp, FpOk X pins H b) (ho : ∀ b ∈ fp, ∃ o, s.heap.get? b = some o ∧ ∀ v, o.data ≠ .cell v) : Inv X (pins ++ pinsAt fp s.heap) σ H s :=
  I.pins_of fun p hp => (List.mem_append.mp hp).elim (fun z => I.pin p (List.mem_append_right _ z)) fun z => by
    obtain ⟨hb, e⟩ := of_pinsAt z
    obtain ⟨f0, f1, f2, _⟩ := hf p.1 hb
    obtain ⟨o, e', d⟩ := ho p.1 hb
    rw [e] at e'; cases e'
    exact ⟨e, f0, f1, f2, d⟩
theorem Inv.unpinned {pins pl : List (Addr × Obj)} {σ : St} {H : Hp} {s : Shared} (I : Inv X (pins ++ pl) σ H s) : Inv X pins σ H s := I.pins_of fun p hp => I.pin p (List.mem_append_right _ (List.mem_append_left _ hp))
theorem ps_for {iter : Expr} {body : List Stmt} {wi : TI} {g : TG} {tb : TS} {pos : Pos} (hp : PassesOwn (model X.prog X.w) X.A X.env X.xe) (hc : X.calm = true) (hi : PI X tg iter wi) (hg : PG X tg g) (hb : PSs X body tb)
    (hs : ∀ x, foldedSetIterable iter X.env x = pure x := by intro _; rfl) : PS X (.For tg iter body [] pos) (tFor wi g tb) := by
  intro pins s σ H D I h
  refine wpAny_For (thn (hi pins s σ H _ I h) fun v s1 h1 => thn h1 fun itv s2 h2 => ?_) hs
  obtain ⟨it, fp, tn, J, H2, e, I2, T, st2, f2, W, ⟨m0, w0⟩, turn⟩ := h2
  subst e
  -- what stays true of the iterator's objects through the loop
  have stat : ∀ {H' : Hp}, (∀ b ∈ fp, H' b = none) → ∀ b ∈ fp, FpOk X pins H' b := fun hn b hb => ⟨hn b hb, (f2 b hb).2⟩
  refine codeAny_forLoop_any (fun n s' => ∃ i σ' H', Inv X pins σ' H' s' ∧ tn i s'.heap ∧ (∀ b ∈ fp, H' b = none) ∧ W i n σ' H') ?_ m0 ⟨0, σ, H2, I2, st2, fun b hb => (f2 b hb).1, w0⟩
  rintro n s3 ⟨i, σ3, H3, I3, st3, fr3, w3⟩
  rcases turn i n σ3 H3 w3 with ⟨stop, qn⟩ | ⟨go, N, hN, step⟩
  · refine wpAny_passesOwn hp (thn (T.done X rfl rfl rfl hc i pins s3 σ3 H3 X.xe I3 (stat fr3) st3 stop) fun r s4 ⟨hr, I4⟩ => ?_)
    subst hr
    exact wpAny_execs_nil ⟨σ3, H3, I4, qn⟩
  · refine wpAny_passesOwn hp (thn (T.item X rfl rfl rfl hc i pins s3 σ3 H3 X.xe I3 (stat fr3) st3 go) fun r s4 ⟨u, hr, h4⟩ => ?_)
    subst hr
    refine wpAny_passesOwn hp (thn h4 fun _ s5 ⟨x, H5, I5, r5, y5, st5, fr5⟩ => ?_)
    have I5' := I5.pinned (stat fr5) (T.obj _ _ st5)
    refine wpAny_passesOwn hp (thn (hg _ s5 σ3 H5 x u _ I5' r5 (step x H5 y5)) fun _ s6 ⟨σ6, H6, I6, q6⟩ => ?_)
    refine wpAny_passesOwn hp (thn (hb _ s6 σ6 H6 _ I6 q6) fun f s7 q7 => ?_)
    have again : ∀ {σ7 : St} {H7 : Hp}, Inv X (pins ++ pinsAt fp s5.heap) σ7 H7 s7 → N σ7 H7 → ∃ m, m < n ∧ ∃ i σ' H', Inv X pins σ' H' s7 ∧ tn i s7.heap ∧ (∀ b ∈ fp, H' b = none) ∧ W i m σ' H' := fun {σ7 H7} I7 n7 => by
      obtain ⟨m', hm, w7⟩ := hN σ7 H7 n7
      refine ⟨m', hm, i + 1, σ7, H7, I7.unpinned, T.keep _ _ _ st5 fun b hb o e => (I7.pin (b, o) (List.mem_append_right _ (List.mem_append_right _ (mem_pinsAt hb e)))).1, fun b hb => ?_, w7⟩
      obtain ⟨o, e, d⟩ := T.obj _ _ st5 b hb
      exact (I7.pin (b, o) (List.mem_append_right _ (List.mem_append_right _ (mem_pinsAt hb e)))).2.1
    cases f with
    | next => obtain ⟨σ7, H7, I7, n7⟩ := q7; exact again I7 n7
    | cont => obtain ⟨σ7, H7, I7, n7⟩ := q7; exact again I7 n7
    | brk => obtain ⟨σ7, H7, I7, q7⟩ := q7; exact ⟨σ7, H7, I7.unpinned, q7⟩
    | ret v => obtain ⟨x7, σ7, H7, I7, r7, q7⟩ := q7; exact ⟨x7, σ7, H7, I7.unpinned, r7, q7⟩
end

/-! ### the forms one uses -/
/-- over a list that the body leaves as it is -/
theorem for_list {K : PySem.W.Frag} {a : Addr} {xs : List V} {g : TG} {tb : TS} {D : Ends} {σ : St} {H : Hp} (Pv : Nat → St → Hp → Prop) (h0 : Pv 0 σ H) (hl : ∀ i σ H, i ≤ xs.length → Pv i σ H → SqL K H a xs)
    (hs : ∀ i x σ H, xs[i]? = some x → Pv i σ H → g x σ H fun σ2 H2 => tb { D with nx := Pv (i + 1), ct := Pv (i + 1), bk := D.nx } σ2 H2) (hd : ∀ σ H, Pv xs.length σ H → D.nx σ H) :
    ∃ W : Nat → Nat → St → Hp → Prop, (∃ m, W 0 m σ H) ∧ ∀ i m σ H, W i m σ H →
      ((Itl K a).stop i H ∧ D.nx σ H) ∨ ((Itl K a).go i H ∧ ∃ N : St → Hp → Prop, (∀ σ' H', N σ' H' → ∃ m', m' < m ∧ W (i + 1) m' σ' H') ∧ ∀ x H', (Itl K a).yld i H x H' → g x σ H' fun σ2 H2 => tb { D with nx := N, ct := N, bk := D.nx } σ2 H2) := by
  refine ⟨fun i m σ H => m = xs.length - i ∧ i ≤ xs.length ∧ Pv i σ H, ⟨xs.length, by simp, Nat.zero_le _, h0⟩, ?_⟩
  rintro i m σ H ⟨rfl, hi, p⟩
  have q := hl i σ H hi p
  by_cases hlt : i < xs.length
  · refine .inr ⟨⟨xs, xs[i], q, by simp [hlt]⟩, Pv (i + 1), fun σ' H' p' => ⟨xs.length - (i + 1), by omega, rfl, hlt, p'⟩, fun x H' y => ?_⟩
    obtain ⟨e, y⟩ := y
    subst e
    exact hs i x σ _ (y xs q) p
  · have e : i = xs.length := by omega
    subst e
    exact .inl ⟨⟨xs, q, Nat.le_refl _⟩, hd σ H p⟩
theorem for_tup {K : PySem.W.Frag} {a : Addr} {xs : List V} {g : TG} {tb : TS} {D : Ends} {σ : St} {H : Hp} (Pv : Nat → St → Hp → Prop) (h0 : Pv 0 σ H) (hl : ∀ i σ H, i ≤ xs.length → Pv i σ H → SqT K H a xs)
    (hs : ∀ i x σ H, xs[i]? = some x → Pv i σ H → g x σ H fun σ2 H2 => tb { D with nx := Pv (i + 1), ct := Pv (i + 1), bk := D.nx } σ2 H2) (hd : ∀ σ H, Pv xs.length σ H → D.nx σ H) :
    ∃ W : Nat → Nat → St → Hp → Prop, (∃ m, W 0 m σ H) ∧ ∀ i m σ H, W i m σ H →
      ((Itt K a).stop i H ∧ D.nx σ H) ∨ ((Itt K a).go i H ∧ ∃ N : St → Hp → Prop, (∀ σ' H', N σ' H' → ∃ m', m' < m ∧ W (i + 1) m' σ' H') ∧ ∀ x H', (Itt K a).yld i H x H' → g x σ H' fun σ2 H2 => tb { D with nx := N, ct := N, bk := D.nx } σ2 H2) := by
  refine ⟨fun i m σ H => m = xs.length - i ∧ i ≤ xs.length ∧ Pv i σ H, ⟨xs.length, by simp, Nat.zero_le _, h0⟩, ?_⟩
  rintro i m σ H ⟨rfl, hi, p⟩
  have q := hl i σ H hi p
  by_cases hlt : i < xs.length
  · refine .inr ⟨⟨xs, xs[i], q, by simp [hlt]⟩, Pv (i + 1), fun σ' H' p' => ⟨xs.length - (i + 1), by omega, rfl, hlt, p'⟩, fun x H' y => ?_⟩
    obtain ⟨e, y⟩ := y
    subst e
    exact hs i x σ _ (y xs q) p
  · have e : i = xs.length := by omega
    subst e
    exact .inl ⟨⟨xs, q, Nat.le_refl _⟩, hd σ H p⟩
theorem for_range {lo : Int} {n : Nat} {g : TG} {tb : TS} {D : Ends} {σ : St} {H : Hp} (Pv : Nat → St → Hp → Prop) (h0 : Pv 0 σ H)
    (hs : ∀ i σ H, i < n → Pv i σ H → g (.int (lo + i)) σ H fun σ2 H2 => tb { D with nx := Pv (i + 1), ct := Pv (i + 1), bk := D.nx } σ2 H2) (hd : ∀ σ H, Pv n σ H → D.nx σ H) :
    ∃ W : Nat → Nat → St → Hp → Prop, (∃ m, W 0 m σ H) ∧ ∀ i m σ H, W i m σ H →
      ((Itr lo n).stop i H ∧ D.nx σ H) ∨ ((Itr lo n).go i H ∧ ∃ N : St → Hp → Prop, (∀ σ' H', N σ' H' → ∃ m', m' < m ∧ W (i + 1) m' σ' H') ∧ ∀ x H', (Itr lo n).yld i H x H' → g x σ H' fun σ2 H2 => tb { D with nx := N, ct := N, bk := D.nx } σ2 H2) := by
  refine ⟨fun i m σ H => m = n - i ∧ i ≤ n ∧ Pv i σ H, ⟨n, by simp, Nat.zero_le _, h0⟩, ?_⟩
  rintro i m σ H ⟨rfl, hi, p⟩
  by_cases hlt : i < n
  · refine .inr ⟨hlt, Pv (i + 1), fun σ' H' p' => ⟨n - (i + 1), by omega, rfl, hlt, p'⟩, fun x H' y => ?_⟩
    obtain ⟨e, y⟩ := y
    subst e y
    exact hs i σ _ hlt p
  · have e : i = n := by omega
    subst e
    exact .inl ⟨Nat.le_refl _, hd σ H p⟩
/-- while, by a word and a measure of the state -/
theorem while_by {c : TT} {tb : TS} {D : Ends} {σ : St} {H : Hp} (Pv : St → Hp → Prop) (μ : St → Hp → Nat) (h0 : Pv σ H)
    (hs : ∀ σ H, Pv σ H → c σ H fun b H1 => if b = true then tb { D with nx := fun σ' H' => Pv σ' H' ∧ μ σ' H' < μ σ H, ct := fun σ' H' => Pv σ' H' ∧ μ σ' H' < μ σ H, bk := D.nx } σ H1 else D.nx σ H1)
    (mono : ∀ σ H Q Q', (∀ b H1, Q b H1 → Q' b H1) → c σ H Q → c σ H Q') : tWhile c tb D σ H := by
  refine ⟨fun m σ H => m = μ σ H ∧ Pv σ H, ⟨_, rfl, h0⟩, ?_⟩
  rintro m σ H ⟨rfl, p⟩
  refine mono σ H _ _ (fun b H1 q => ?_) (hs σ H p)
  cases b with
  | true => exact ⟨_, fun σ' H' ⟨p', l⟩ => ⟨_, l, rfl, p'⟩, q⟩
  | false => exact q
end L2

namespace L2
open PySem PySem.Spec PyProof.Rows

abbrev R2 := V → V → Hp → VK → Prop
/-- a two-place operation on values: f is binaryOp op, inplaceOp op or compareOp op -/
def OpR (X : Cx) (f : Value → Value → Sem Value) (r : R2) : Prop :=
  ∀ (pins : List (Addr × Obj)) (s : Shared) (σ : St) (H : Hp) (x y : V) (v u : Value) (Q : VK), Inv X pins σ H s → RelV x v → RelV y u → r x y H Q →
    wpAny (model X.prog X.w) X.A (f v u) (EP X pins σ Q) X.xe s
/-- a one-place operation -/
def UnR (X : Cx) (f : Value → Sem Value) (r : V → Hp → VK → Prop) : Prop :=
  ∀ (pins : List (Addr × Obj)) (s : Shared) (σ : St) (H : Hp) (x : V) (v : Value) (Q : VK), Inv X pins σ H s → RelV x v → r x H Q →
    wpAny (model X.prog X.w) X.A (f v) (EP X pins σ Q) X.xe s
/-- a call of a value that is known (a builtin, a type) with values -/
def CallR (X : Cx) (f : Value) (r : List V → Hp → VK → Prop) : Prop :=
  ∀ (pins : List (Addr × Obj)) (s : Shared) (σ : St) (H : Hp) (xs : List V) (us : List Value) (Q : VK), Inv X pins σ H s → Vals xs us → r xs H Q →
    wpAny (model X.prog X.w) X.A (call f us) (EP X pins σ Q) X.xe s
/-- a value's truth -/
def TruR (X : Cx) (r : V → Hp → (Bool → Hp → Prop) → Prop) : Prop :=
  ∀ (pins : List (Addr × Obj)) (s : Shared) (σ : St) (H : Hp) (x : V) (v : Value) (Q : Bool → Hp → Prop), Inv X pins σ H s → RelV x v → r x H Q →
    wpAny (model X.prog X.w) X.A (truthy v) (TP X pins σ Q) X.xe s

def tOp (r : R2) (ta tb : TE) : TE := fun σ H Q => ta σ H fun x H1 => tb σ H1 fun y H2 => r x y H2 Q
def tUn (r : V → Hp → VK → Prop) (ta : TE) : TE := fun σ H Q => ta σ H fun x H1 => r x H1 Q
/-- ints in, under C, and a value out -/
def rI (C : Int → Int → Prop) (g : Int → Int → V) : R2 := fun x y H Q => ∃ i j, x = .int i ∧ y = .int j ∧ C i j ∧ Q (g i j) H
def rI0 (g : Int → Int → V) : R2 := fun x y H Q => ∃ i j, x = .int i ∧ y = .int j ∧ Q (g i j) H
def rU (g : Int → V) : V → Hp → VK → Prop := fun x H Q => ∃ i, x = .int i ∧ Q (g i) H

section
variable {X : Cx} {a b c : Expr} {ta tb tc : TE} {pos : Pos}

theorem binT (ha : PE X a ta) (hb : PE X b tb) {pins : List (Addr × Obj)} {s : Shared} {σ : St} {H : Hp} {R : V → V → Hp → Prop} (I : Inv X pins σ H s)
    (h : ta σ H fun x H1 => tb σ H1 fun y H2 => R x y H2) {Q : Value → Shared → Prop} {f : Value → Value → Sem Value}
    (hf : ∀ v u s2 x y H2, Inv X pins σ H2 s2 → RelV x v → RelV y u → R x y H2 → wpAny (model X.prog X.w) X.A (f v u) Q X.xe s2) :
    wpAny (model X.prog X.w) X.A (eval a X.env) (fun v s₁ => wpAny (model X.prog X.w) X.A (eval b X.env) (fun u s₂ => wpAny (model X.prog X.w) X.A (f v u) Q X.xe s₂) X.xe s₁) X.xe s := by
  refine thn (ha pins s σ H _ I h) fun v s1 ⟨x, H1, I1, r1, q1⟩ => ?_
  refine thn (hb pins s1 σ H1 _ I1 q1) fun u s2 ⟨y, H2, I2, r2, q2⟩ => ?_
  exact hf v u s2 x y H2 I2 r1 r2 q2

theorem pe_op {op : Operator} {r : R2} (ho : OpR X (binaryOp op) r) (ha : PE X a ta) (hb : PE X b tb) : PE X (.BinOp a op b pos) (tOp r ta tb) := by
  intro pins s σ H Q I h
  exact wpAny_BinOp (binT ha hb I h fun v u s2 x y H2 I2 rx ry q => ho pins s2 σ H2 x y v u Q I2 rx ry q)
theorem pe_un {op : UnaryOp} {r : V → Hp → VK → Prop} (ho : UnR X (unaryOp op) r) (ha : PE X a ta) : PE X (.UnaryOp op a pos) (tUn r ta) := by
  intro pins s σ H Q I h
  exact UnaryOp_ (thn (ha pins s σ H _ I h) fun v s1 ⟨x, H1, I1, r1, q1⟩ => ho pins s1 σ H1 x v Q I1 r1 q1)
/-- a op= e at a name: the name's slot i -/
theorem augR {op : Operator} {r : R2} (ho : OpR X (inplaceOp op) r) {pins : List (Addr × Obj)} {s : Shared} {σ : St} {H : Hp} {x y : V} {v u : Value} {Q : VK} (I : Inv X pins σ H s)
    (rx : RelV x v) (ry : RelV y u) (q : r x y H Q) : wpAny (model X.prog X.w) X.A (inplaceOp op v u) (EP X pins σ Q) X.xe s := ho pins s σ H x y v u Q I rx ry q

/-! ### ints -/
theorem opI {f : Value → Value → Sem Value} {C : Int → Int → Prop} {g : Int → Int → Int}
    (rule : ∀ (i j : Int) (t u : Tok) (s : Shared) (Q : Value → Shared → Prop) (E : Value → Shared → Prop), C i j → Q (.int (g i j) s.toks) { s with toks := s.toks + 1 } → wpAny (model X.prog X.w) X.A (f (.int i t) (.int j u)) Q E s) :
    OpR X f (rI C fun i j => .int (g i j)) := by
  intro pins s σ H x y v u Q I rx ry h
  obtain ⟨i, j, rfl, rfl, hc, q⟩ := h
  obtain ⟨t, rfl⟩ := rx
  obtain ⟨t', rfl⟩ := ry
  exact rule i j t t' s _ _ hc ⟨.int (g i j), H, I.tok _, ⟨_, rfl⟩, q⟩
theorem opI0 {f : Value → Value → Sem Value} {g : Int → Int → Int}
    (rule : ∀ (i j : Int) (t u : Tok) (s : Shared) (Q : Value → Shared → Prop) (E : Value → Shared → Prop), Q (.int (g i j) s.toks) { s with toks := s.toks + 1 } → wpAny (model X.prog X.w) X.A (f (.int i t) (.int j u)) Q E s) :
    OpR X f (rI0 fun i j => .int (g i j)) := by
  intro pins s σ H x y v u Q I rx ry h
  obtain ⟨i, j, rfl, rfl, q⟩ := h
  obtain ⟨t, rfl⟩ := rx
  obtain ⟨t', rfl⟩ := ry
  exact rule i j t t' s _ _ ⟨.int (g i j), H, I.tok _, ⟨_, rfl⟩, q⟩
theorem opB0 {f : Value → Value → Sem Value} {g : Int → Int → Bool}
    (rule : ∀ (i j : Int) (t u : Tok) (s : Shared) (Q : Value → Shared → Prop) (E : Value → Shared → Prop), Q (.bool (g i j)) s → wpAny (model X.prog X.w) X.A (f (.int i t) (.int j u)) Q E s) :
    OpR X f (rI0 fun i j => .bl (g i j)) := by
  intro pins s σ H x y v u Q I rx ry h
  obtain ⟨i, j, rfl, rfl, q⟩ := h
  obtain ⟨t, rfl⟩ := rx
  obtain ⟨t', rfl⟩ := ry
  exact rule i j t t' s _ _ ⟨.bl (g i j), H, I, rfl, q⟩

def CDiv (i j : Int) : Prop := 0 < j ∧ j < 1073741824
def CDivN (i j : Int) : Prop := j ≠ 0 ∧ j.natAbs < 1073741824
def CPow (i j : Int) : Prop := 0 ≤ j ∧ j ≤ 1000000 ∧ i.natAbs < 2 ^ 64
def CMul (i j : Int) : Prop := (-(2 ^ 64) < i ∧ i < 2 ^ 64) ∨ (-(2 ^ 64) < j ∧ j < 2 ^ 64)
theorem CMul.ok {i j : Int} (h : CMul i j) : IntMulOk i j := by
  rcases h with ⟨h1, h2⟩ | ⟨h1, h2⟩
  · exact .of_left (intBits_le_64 h1 h2)
  · exact .of_right (intBits_le_64 h1 h2)
theorem two_pow_nn (k : Nat) : (0 : Int) ≤ 2 ^ k := by
  rw [two_pow_cast]
  exact Int.natCast_nonneg _

theorem op_add : OpR X (binaryOp .Add) (rI0 fun i j => .int (i + j)) := opI0 fun _ _ _ _ _ _ _ q => add_int q
theorem op_sub : OpR X (binaryOp .Sub) (rI0 fun i j => .int (i - j)) := opI0 fun _ _ _ _ _ _ _ q => sub_int q
theorem op_mul : OpR X (binaryOp .Mult) (rI CMul fun i j => .int (i * j)) := opI fun _ _ _ _ _ _ _ hc q => mul_int q hc.ok
/-- // by a positive divisor -/
theorem op_fdiv : OpR X (binaryOp .FloorDiv) (rI CDiv fun i j => .int (i / j)) := opI fun i j _ _ _ _ _ hc q => by
  have h1 : (0 : Int) < j := hc.1
  have h2 : j < 1073741824 := hc.2
  exact floordiv_int (by omega) (by rw [Int.fdiv_eq_ediv_of_nonneg i (by omega)]; exact q) (.inl (PyProof.noPylong_small (by omega)))
theorem op_fdivN : OpR X (binaryOp .FloorDiv) (rI CDivN fun i j => .int (i.fdiv j)) := opI fun _ _ _ _ _ _ _ hc q => floordiv_int hc.1 q (.inl (PyProof.noPylong_small hc.2))
/-- % by a positive divisor of any size -/
theorem op_mod : OpR X (binaryOp .Mod) (rI (fun _ j => 0 < j) fun i j => .int (i % j)) := opI fun i j _ _ _ _ _ hc q => by
  have h1 : (0 : Int) < j := hc
  exact mod_int' (by omega) (by rw [Int.fmod_eq_emod_of_nonneg i (by omega)]; exact q)
theorem op_modN : OpR X (binaryOp .Mod) (rI (fun _ j => j ≠ 0) fun i j => .int (i.fmod j)) := opI fun _ _ _ _ _ _ _ hc q => mod_int' hc q
theorem op_pow : OpR X (binaryOp .Pow) (rI CPow fun i j => .int (i ^ j.toNat)) := opI fun _ _ _ _ _ _ _ hc q => pow_int_small hc.1 hc.2.1 hc.2.2 q
theorem op_shl : OpR X (binaryOp .LShift) (rI CPow fun i j => .int (i * 2 ^ j.toNat)) := opI fun _ _ _ _ _ _ _ hc q => lshift_int_small hc.1 hc.2.1 hc.2.2 q
theorem op_shr : OpR X (binaryOp .RShift) (rI (fun _ j => 0 ≤ j) fun i j => .int (i / 2 ^ j.toNat)) := opI fun i j _ _ _ _ _ hc q =>
  rshift_int hc (by rw [Int.fdiv_eq_ediv_of_nonneg i (two_pow_nn _)]; exact q)
theorem op_and : OpR X (binaryOp .BitAnd) (rI0 fun i j => .int (Builtin.bitAnd i j)) := opI0 fun _ _ _ _ _ _ _ q => and_int q
theorem op_or : OpR X (binaryOp .BitOr) (rI0 fun i j => .int (Builtin.bitOr i j)) := opI0 fun _ _ _ _ _ _ _ q => or_int q
theorem op_xor : OpR X (binaryOp .BitXor) (rI0 fun i j => .int (Builtin.bitXor i j)) := opI0 fun _ _ _ _ _ _ _ q => xor_int q

theorem iop_add : OpR X (inplaceOp .Add) (rI0 fun i j => .int (i + j)) := opI0 fun _ _ _ _ _ _ _ q => iadd_int q
theorem iop_sub : OpR X (inplaceOp .Sub) (rI0 fun i j => .int (i - j)) := opI0 fun _ _ _ _ _ _ _ q => isub_int q
theorem iop_mul : OpR X (inplaceOp .Mult) (rI CMul fun i j => .int (i * j)) := opI fun _ _ _ _ _ _ _ hc q => imul_int q hc.ok
theorem iop_fdiv : OpR X (inplaceOp .FloorDiv) (rI CDiv fun i j => .int (i / j)) := opI fun i j _ _ _ _ _ hc q => by
  have h1 : (0 : Int) < j := hc.1
  have h2 : j < 1073741824 := hc.2
  exact ifloordiv_int (by omega) (by rw [Int.fdiv_eq_ediv_of_nonneg i (by omega)]; exact q) (.inl (PyProof.noPylong_small (by omega)))
theorem iop_mod : OpR X (inplaceOp .Mod) (rI (fun _ j => 0 < j) fun i j => .int (i % j)) := opI fun i j _ _ _ _ _ hc q => by
  have h1 : (0 : Int) < j := hc
  exact imod_int (by omega) (by rw [Int.fmod_eq_emod_of_nonneg i (by omega)]; exact q)
theorem iop_shl : OpR X (inplaceOp .LShift) (rI CPow fun i j => .int (i * 2 ^ j.toNat)) := opI fun _ _ _ _ _ _ _ hc q => ilshift_int_small hc.1 hc.2.1 hc.2.2 q
theorem iop_shr : OpR X (inplaceOp .RShift) (rI (fun _ j => 0 ≤ j) fun i j => .int (i / 2 ^ j.toNat)) := opI fun i j _ _ _ _ _ hc q =>
  irshift_int hc (by rw [Int.fdiv_eq_ediv_of_nonneg i (two_pow_nn _)]; exact q)
theorem iop_and : OpR X (inplaceOp .BitAnd) (rI0 fun i j => .int (Builtin.bitAnd i j)) := opI0 fun _ _ _ _ _ _ _ q => iand_int q
theorem iop_or : OpR X (inplaceOp .BitOr) (rI0 fun i j => .int (Builtin.bitOr i j)) := opI0 fun _ _ _ _ _ _ _ q => ior_int q
theorem iop_xor : OpR X (inplaceOp .BitXor) (rI0 fun i j => .int (Builtin.bitXor i j)) := opI0 fun _ _ _ _ _ _ _ q => ixor_int q

theorem unI {f : Value → Sem Value} {g : Int → Int}
    (rule : ∀ (i : Int) (t : Tok) (s : Shared) (Q : Value → Shared → Prop) (E : Value → Shared → Prop), Q (.int (g i) s.toks) { s with toks := s.toks + 1 } → wpAny (model X.prog X.w) X.A (f (.int i t)) Q E s) :
    UnR X f (rU fun i => .int (g i)) := by
  intro pins s σ H x v Q I rx h
  obtain ⟨i, rfl, q⟩ := h
  obtain ⟨t, rfl⟩ := rx
  exact rule i t s _ _ ⟨.int (g i), H, I.tok _, ⟨_, rfl⟩, q⟩
theorem un_neg : UnR X (unaryOp .USub) (rU fun i => .int (-i)) := unI fun _ _ _ _ _ q => neg_int q
theorem un_inv : UnR X (unaryOp .Invert) (rU fun i => .int (Builtin.bitNot i)) := unI fun _ _ _ _ _ q => invert_int q

/-! ### bools among ints: n += (a < b) -/
theorem op_add_ib : OpR X (binaryOp .Add) (fun x y H Q => ∃ i k, x = .int i ∧ y = .bl k ∧ Q (.int (i + b2i k)) H) := by
  intro pins s σ H x y v u Q I rx ry h
  obtain ⟨i, k, rfl, rfl, q⟩ := h
  obtain ⟨t, rfl⟩ := rx
  cases ry
  exact add_int_bool ⟨.int (i + b2i k), H, I.tok _, ⟨_, rfl⟩, q⟩
end

/-! ### comparisons -/
/-- the scalars that == tells apart as data does -/
def scal : V → V → Bool
  | .non, .non => true | .non, .int _ => true | .int _, .non => true | .non, .bl _ => true | .bl _, .non => true | .non, .str _ => true | .str _, .non => true
  | .int _, .int _ => true | .bl _, .bl _ => true | .str _, .str _ => true | .byt _, .byt _ => true
  | .int _, .str _ => true | .str _, .int _ => true | .bl _, .str _ => true | .str _, .bl _ => true
  | _, _ => false
def rEq : R2 := fun x y H Q => scal x y = true ∧ Q (.bl (decide (x = y))) H
def rNe : R2 := fun x y H Q => scal x y = true ∧ Q (.bl (!decide (x = y))) H

theorem dec_int {i j : Int} : decide (V.int i = V.int j) = (i == j) := by
  rw [Bool.eq_iff_iff]
  simp
theorem dec_bl {i j : Bool} : decide (V.bl i = V.bl j) = (i == j) := by
  rw [Bool.eq_iff_iff]
  simp
theorem dec_str {i j : Str} : decide (V.str i = V.str j) = (i == j) := by
  rw [Bool.eq_iff_iff]
  simp
theorem dec_byt {i j : Array UInt8} : decide (V.byt i = V.byt j) = (i.toList == j.toList) := by
  rw [Bool.eq_iff_iff]
  cases i
  cases j
  simp

section
variable {X : Cx} {a b c : Expr} {ta tb tc : TE} {pos : Pos}
theorem fin_bl {pins : List (Addr × Obj)} {σ : St} {H : Hp} {s : Shared} {Q : VK} {k k' : Bool} (I : Inv X pins σ H s) (q : Q (.bl k) H) (e : k = k') : EP X pins σ Q (.bool k') s := by
  subst e
  exact ⟨.bl k, H, I, rfl, q⟩
theorem op_eq : OpR X (compareOp .Eq) rEq := by
  intro pins s σ H x y v u Q I rx ry h
  obtain ⟨hs, q⟩ := h
  cases x with
  | non =>
    cases rx
    cases y with
    | non => cases ry; exact PySem.EqNone.eq_none_none (fin_bl I q (by simp))
    | bl j => cases ry; exact PySem.EqNone.eq_none_bool (fin_bl I q (by simp))
    | int j => obtain ⟨t', rfl⟩ := ry; exact PySem.EqNone.eq_none_int (fin_bl I q (by simp))
    | str j => obtain ⟨t', rfl⟩ := ry; exact PySem.EqNone.eq_none_str (fin_bl I q (by simp))
    | _ => exact absurd (show false = true from hs) Bool.false_ne_true
  | bl i =>
    cases rx
    cases y with
    | non => cases ry; exact PySem.EqNone.eq_bool_none (fin_bl I q (by simp))
    | bl j => cases ry; exact eq_bool (fin_bl I q dec_bl)
    | str j => obtain ⟨t', rfl⟩ := ry; exact PySem.EqMixed.eq_bool_str (fin_bl I q (by simp))
    | _ => exact absurd (show false = true from hs) Bool.false_ne_true
  | int i =>
    obtain ⟨t, rfl⟩ := rx
    cases y with
    | non => cases ry; exact PySem.EqNone.eq_int_none (fin_bl I q (by simp))
    | int j => obtain ⟨t', rfl⟩ := ry; exact eq_int (fin_bl I q dec_int)
    | str j => obtain ⟨t', rfl⟩ := ry; exact PySem.EqMixed.eq_int_str (fin_bl I q (by simp))
    | _ => exact absurd (show false = true from hs) Bool.false_ne_true
  | str i =>
    obtain ⟨t, rfl⟩ := rx
    cases y with
    | non => cases ry; exact PySem.EqNone.eq_str_none (fin_bl I q (by simp))
    | bl j => cases ry; exact PySem.EqMixed.eq_str_bool (fin_bl I q (by simp))
    | int j => obtain ⟨t', rfl⟩ := ry; exact PySem.EqMixed.eq_str_int (fin_bl I q (by simp))
    | str j => obtain ⟨t', rfl⟩ := ry; exact eq_str (fin_bl I q dec_str)
    | _ => exact absurd (show false = true from hs) Bool.false_ne_true
  | byt i =>
    obtain ⟨t, rfl⟩ := rx
    cases y with
    | byt j => obtain ⟨t', rfl⟩ := ry; exact PySem.W.eq_bytes (fin_bl I q dec_byt)
    | _ => exact absurd (show false = true from hs) Bool.false_ne_true
  | _ => cases y <;> exact absurd (show false = true from hs) Bool.false_ne_true
theorem op_ne : OpR X (compareOp .NotEq) rNe := by
  intro pins s σ H x y v u Q I rx ry h
  obtain ⟨hs, q⟩ := h
  cases x with
  | non =>
    cases rx
    cases y with
    | non => cases ry; exact PySem.EqNone.ne_none_none (fin_bl I q (by simp))
    | bl j => cases ry; exact PySem.EqNone.ne_none_bool (fin_bl I q (by simp))
    | int j => obtain ⟨t', rfl⟩ := ry; exact PySem.EqNone.ne_none_int (fin_bl I q (by simp))
    | str j => obtain ⟨t', rfl⟩ := ry; exact PySem.EqNone.ne_none_str (fin_bl I q (by simp))
    | _ => exact absurd (show false = true from hs) Bool.false_ne_true
  | bl i =>
    cases rx
    cases y with
    | non => cases ry; exact PySem.EqNone.ne_bool_none (fin_bl I q (by simp))
    | bl j => cases ry; exact ne_bool (fin_bl I q (congrArg not dec_bl))
    | str j => obtain ⟨t', rfl⟩ := ry; exact PySem.EqMixed.ne_bool_str (fin_bl I q (by simp))
    | _ => exact absurd (show false = true from hs) Bool.false_ne_true
  | int i =>
    obtain ⟨t, rfl⟩ := rx
    cases y with
    | non => cases ry; exact PySem.EqNone.ne_int_none (fin_bl I q (by simp))
    | int j => obtain ⟨t', rfl⟩ := ry; exact ne_int (fin_bl I q (congrArg not dec_int))
    | str j => obtain ⟨t', rfl⟩ := ry; exact PySem.EqMixed.ne_int_str (fin_bl I q (by simp))
    | _ => exact absurd (show false = true from hs) Bool.false_ne_true
  | str i =>
    obtain ⟨t, rfl⟩ := rx
    cases y with
    | non => cases ry; exact PySem.EqNone.ne_str_none (fin_bl I q (by simp))
    | bl j => cases ry; exact PySem.EqMixed.ne_str_bool (fin_bl I q (by simp))
    | int j => obtain ⟨t', rfl⟩ := ry; exact PySem.EqMixed.ne_str_int (fin_bl I q (by simp))
    | str j => obtain ⟨t', rfl⟩ := ry; exact ne_str (fin_bl I q (congrArg not dec_str))
    | _ => exact absurd (show false = true from hs) Bool.false_ne_true
  | byt i =>
    obtain ⟨t, rfl⟩ := rx
    cases y with
    | byt j => obtain ⟨t', rfl⟩ := ry; exact PySem.W.ne_bytes (fin_bl I q (congrArg not dec_byt))
    | _ => exact absurd (show false = true from hs) Bool.false_ne_true
  | _ => cases y <;> exact absurd (show false = true from hs) Bool.false_ne_true

theorem op_lt : OpR X (compareOp .Lt) (rI0 fun i j => .bl (decide (i < j))) := opB0 fun _ _ _ _ _ _ _ q => lt_int q
theorem op_le : OpR X (compareOp .LtE) (rI0 fun i j => .bl (decide (i ≤ j))) := opB0 fun _ _ _ _ _ _ _ q => le_int q
theorem op_gt : OpR X (compareOp .Gt) (rI0 fun i j => .bl (decide (j < i))) := opB0 fun _ _ _ _ _ _ _ q => gt_int q
theorem op_ge : OpR X (compareOp .GtE) (rI0 fun i j => .bl (decide (j ≤ i))) := opB0 fun _ _ _ _ _ _ _ q => ge_int q
theorem op_lt_str : OpR X (compareOp .Lt) (fun x y H Q => ∃ i j, x = .str i ∧ y = .str j ∧ Q (.bl (decide (i.cps.toList < j.cps.toList))) H) := by
  intro pins s σ H x y v u Q I rx ry h
  obtain ⟨i, j, rfl, rfl, q⟩ := h
  obtain ⟨t, rfl⟩ := rx
  obtain ⟨t', rfl⟩ := ry
  exact lt_str (fin_bl I q rfl)
/-- the one string within the other -/
theorem op_in_str : OpR X (compareOp .In) (fun x y H Q => ∃ i j, x = .str i ∧ y = .str j ∧ Q (.bl (!(Builtin.Str.occurrences j i 0 j.length 1).isEmpty)) H) := by
  intro pins s σ H x y v u Q I rx ry h
  obtain ⟨i, j, rfl, rfl, q⟩ := h
  obtain ⟨t, rfl⟩ := rx
  obtain ⟨t', rfl⟩ := ry
  exact in_str (fin_bl I q rfl)

/-- is None, is not None: the right side a value none -/
theorem op_isN : OpR X (compareOp .Is) (fun x y H Q => y = .non ∧ Q (.bl (decide (x = .non))) H) := by
  intro pins s σ H x y v u Q I rx ry h
  obtain ⟨rfl, q⟩ := h
  cases ry
  refine is_none_gen (fin_bl I q ?_)
  cases x <;> first
    | (cases rx; rfl)
    | (obtain ⟨t, rfl⟩ := rx; rfl)
theorem op_notN : OpR X (compareOp .IsNot) (fun x y H Q => y = .non ∧ Q (.bl (!decide (x = .non))) H) := by
  intro pins s σ H x y v u Q I rx ry h
  obtain ⟨rfl, q⟩ := h
  cases ry
  refine isnot_none_gen (fin_bl I q ?_)
  cases x <;> first
    | (cases rx; rfl)
    | (obtain ⟨t, rfl⟩ := rx; rfl)

theorem op_notin_str : OpR X (compareOp .NotIn) (fun x y H Q => ∃ i j, x = .str i ∧ y = .str j ∧ Q (.bl (!(!(Builtin.Str.occurrences j i 0 j.length 1).isEmpty))) H) := by
  intro pins s σ H x y v u Q I rx ry h
  obtain ⟨i, j, rfl, rfl, q⟩ := h
  obtain ⟨t, rfl⟩ := rx
  obtain ⟨t', rfl⟩ := ry
  exact notIn_str (fin_bl I q rfl)
/-- is, is not of two objects that are tracked lists or instances -/
def isObj : HO → Bool
  | .lst _ => true
  | .ins _ _ _ => true
  | _ => false
theorem obj_there {pins : List (Addr × Obj)} {s : Shared} {σ : St} {H : Hp} {a : Addr} {o : HO} (I : Inv X pins σ H s) (h : H a = some o) (p : isObj o = true) : ∃ ob, s.heap.get? a = some ob ∧ ob.cls ≠ .type "tuple" := by
  cases o with
  | lst xs =>
    obtain ⟨_, its, n, _, e⟩ : xs.length ≤ sizeLine ∧ ∃ (its : List Value) (n : Nat), Vals xs its ∧ s.heap.get? a = some { cls := .type "list", data := .seq its.toArray n } := I.hok a _ h
    exact ⟨_, e, (by show Value.type "list" ≠ .type "tuple"; decide +kernel)⟩
  | ins C dx fs =>
    have x := I.hok a _ h
    obtain ⟨_, _, _, e, _⟩ := x
    exact ⟨_, e, (by show Value.ref C ≠ .type "tuple"; exact fun z => by cases z)⟩
  | _ => exact absurd (show false = true from p) Bool.false_ne_true
theorem op_is_ref : OpR X (compareOp .Is) (fun x y H Q => ∃ a b oa ob, x = .ref a ∧ y = .ref b ∧ H a = some oa ∧ isObj oa = true ∧ H b = some ob ∧ isObj ob = true ∧ Q (.bl (decide (a = b))) H) := by
  intro pins s σ H x y v u Q I rx ry h
  obtain ⟨a, b, oa, ob, rfl, rfl, ha, pa, hb, pb, q⟩ := h
  cases rx
  cases ry
  obtain ⟨o1, e1, n1⟩ := obj_there I ha pa
  obtain ⟨o2, e2, _⟩ := obj_there I hb pb
  by_cases z : a = b
  · subst z
    exact wpAny_is_ref_self (fin_bl I q (by simp))
  · exact wpAny_is_ref_other z e1 e2 n1 (fin_bl I q (by simp [z]))
theorem op_isnot_ref : OpR X (compareOp .IsNot) (fun x y H Q => ∃ a b oa ob, x = .ref a ∧ y = .ref b ∧ H a = some oa ∧ isObj oa = true ∧ H b = some ob ∧ isObj ob = true ∧ Q (.bl (!decide (a = b))) H) := by
  intro pins s σ H x y v u Q I rx ry h
  obtain ⟨a, b, oa, ob, rfl, rfl, ha, pa, hb, pb, q⟩ := h
  cases rx
  cases ry
  obtain ⟨o1, e1, n1⟩ := obj_there I ha pa
  obtain ⟨o2, e2, _⟩ := obj_there I hb pb
  by_cases z : a = b
  · subst z
    exact wpAny_isNot_ref_self (fin_bl I q (by simp))
  · exact wpAny_isNot_ref_other z e1 e2 n1 (fin_bl I q (by simp [z]))

/-- two rules for one operation: by cases -/
theorem OpR.or {f : Value → Value → Sem Value} {r r' : R2} (h : OpR X f r) (h' : OpR X f r') : OpR X f (fun x y H Q => r x y H Q ∨ r' x y H Q) := by
  intro pins s σ H x y v u Q I rx ry q
  rcases q with q | q
  · exact h pins s σ H x y v u Q I rx ry q
  · exact h' pins s σ H x y v u Q I rx ry q

theorem nomark (b : Expr) {op : CmpOp} (h : op ≠ .In := by decide) (h2 : op ≠ .NotIn := by decide) : behindInMarks op b = false := by
  have e1 : (op == CmpOp.In) = false := by cases op <;> first | rfl | exact absurd rfl h
  have e2 : (op == CmpOp.NotIn) = false := by cases op <;> first | rfl | exact absurd rfl h2
  cases b <;> simp [behindInMarks, e1, e2]
/-- a comparison as a value; hm: nomark b, or (for in, not in) by with_unfolding_all rfl -/
theorem pe_cmpR {op : CmpOp} {r : R2} (ho : OpR X (compareOp op) r) (ha : PE X a ta) (hb : PE X b tb) (hm : behindInMarks op b = false) : PE X (.Compare a [op] [b] pos) (tOp r ta tb) := by
  intro pins s σ H Q I h
  exact wpAny_Compare1 (binT ha hb I h fun v u s2 x y H2 I2 rx ry q => ho pins s2 σ H2 x y v u Q I2 rx ry q) hm
/-- a reading of a value as a test -/
def tTest (t : TE) : TT := fun σ H Q => t σ H fun x H' => ∃ k, x = .bl k ∧ Q k H'
theorem pt_cmpR {op : CmpOp} {r : R2} (ho : OpR X (compareOp op) r) (ha : PE X a ta) (hb : PE X b tb) (hm : behindInMarks op b = false) : PT X (.Compare a [op] [b] pos) (tTest (tOp r ta tb)) := by
  intro pins s σ H Q I h
  refine wpAny_isTrue_Compare1 (thn (ha pins s σ H _ I h) fun v s1 ⟨x, H1, I1, r1, q1⟩ => thn (hb pins s1 σ H1 _ I1 q1) fun u s2 ⟨y, H2, I2, r2, q2⟩ =>
    thn (ho pins s2 σ H2 x y v u _ I2 r1 r2 q2) fun c s3 ⟨z, H3, I3, r3, k, e, q3⟩ => ?_) hm
  subst e
  cases r3
  exact wpAny_truthy_bool ⟨H3, I3, q3⟩
/-- a op1 b op2 c -/
def tChain (r r' : R2) (ta tb tc : TE) : TE := fun σ H Q => ta σ H fun x H1 => tb σ H1 fun y H2 => r x y H2 fun z H3 => ∃ k, z = .bl k ∧
  (if k = true then tc σ H3 fun w' H4 => r' y w' H4 Q else Q (.bl false) H3)
theorem pe_chain {op op' : CmpOp} {r r' : R2} (ho : OpR X (compareOp op) r) (ho' : OpR X (compareOp op') r') (ha : PE X a ta) (hb : PE X b tb) (hc : PE X c tc)
    (hm : lastMarks [op, op'] [b, c] = false := by with_unfolding_all rfl) : PE X (.Compare a [op, op'] [b, c] pos) (tChain r r' ta tb tc) := by
  intro pins s σ H Q I h
  refine Compare_chain (thn (ha pins s σ H _ I h) fun v s1 ⟨x, H1, I1, r1, q1⟩ => chain_link (thn (hb pins s1 σ H1 _ I1 q1) fun u s2 ⟨y, H2, I2, r2, q2⟩ =>
    thn (ho pins s2 σ H2 x y v u _ I2 r1 r2 q2) fun d s3 ⟨z, H3, I3, r3, k, e, q3⟩ => ?_)) hm
  subst e
  cases r3
  refine wpAny_truthy_bool ?_
  cases k with
  | false => exact ite_ff ⟨.bl false, H3, I3, rfl, q3⟩
  | true => exact ite_tt (chain_last (thn (hc pins s3 σ H3 _ I3 q3) fun w' s4 ⟨z', H4, I4, r4, q4⟩ => ho' pins s4 σ H4 y z' u w' Q I4 r2 r4 q4))
theorem pt_chain {op op' : CmpOp} {r r' : R2} (ho : OpR X (compareOp op) r) (ho' : OpR X (compareOp op') r') (ha : PE X a ta) (hb : PE X b tb) (hc : PE X c tc)
    (hm : lastMarks [op, op'] [b, c] = false := by with_unfolding_all rfl) : PT X (.Compare a [op, op'] [b, c] pos) (tTest (tChain r r' ta tb tc)) := by
  intro pins s σ H Q I h
  refine isTrue_chain (thn (ha pins s σ H _ I h) fun v s1 ⟨x, H1, I1, r1, q1⟩ => test_link (thn (hb pins s1 σ H1 _ I1 q1) fun u s2 ⟨y, H2, I2, r2, q2⟩ =>
    thn (ho pins s2 σ H2 x y v u _ I2 r1 r2 q2) fun d s3 ⟨z, H3, I3, r3, k, e, q3⟩ => ?_)) hm
  subst e
  cases r3
  refine wpAny_truthy_bool ?_
  cases k with
  | false =>
    obtain ⟨k', e', q'⟩ := q3
    cases e'
    exact ite_ff ⟨H3, I3, q'⟩
  | true =>
    refine ite_tt (test_last (thn (hc pins s3 σ H3 _ I3 q3) fun w' s4 ⟨z', H4, I4, r4, q4⟩ => thn (ho' pins s4 σ H4 y z' u w' _ I4 r2 r4 q4) fun d' s5 ⟨z2, H5, I5, r5, k2, e2, q5⟩ => ?_))
    subst e2
    cases r5
    exact wpAny_truthy_bool ⟨H5, I5, q5⟩

/-! ### truth -/
/-- a value's truth by the abstract heap -/
def TruV (K : PySem.W.Frag) (x : V) (H : Hp) (k : Bool) : Prop :=
  match x with
  | .non => k = false
  | .bl b => k = b
  | .int i => k = (i != 0)
  | .str y => y.length ≤ sizeLine ∧ k = ((y.length : Int) != 0)
  | .byt y => y.size ≤ sizeLine ∧ k = ((y.size : Int) != 0)
  | .ref p => (∃ xs, SqL K H p xs ∧ k = !xs.isEmpty) ∨ (∃ xs, SqT K H p xs ∧ k = !xs.isEmpty) ∨ ∃ kvs, H p = some (.dK kvs) ∧ k = !kvs.isEmpty
  | _ => False
theorem isEmpty_kv {κ : Type} {kvs : List (κ × V)} {vs : List (κ × Value)} (r : KV kvs vs) : (!vs.isEmpty) = !kvs.isEmpty := by
  cases r <;> rfl
theorem isEmpty_of {xs : List V} {its : List Value} (r : Vals xs its) : (!its.toArray.isEmpty) = !xs.isEmpty := by
  cases r <;> simp
theorem line63 : (sizeLine : Nat) < 2 ^ 63 := by rw [sizeLine_eq]; decide
theorem tru_ok : TruR X (fun x H Q => ∃ k, TruV X.K x H k ∧ Q k H) := by
  intro pins s σ H x v Q I rx h
  obtain ⟨k, e, q⟩ := h
  have hl := line63
  have hs : sizeLine = 16777216 := sizeLine_eq
  cases x with
  | non =>
    cases rx
    have e' : k = false := e
    subst e'
    exact truthy_none ⟨H, I, q⟩
  | bl b =>
    cases rx
    have e' : k = b := e
    subst e'
    exact wpAny_truthy_bool ⟨H, I, q⟩
  | int i =>
    obtain ⟨t, rfl⟩ := rx
    have e' : k = (i != 0) := e
    subst e'
    exact PySem.P.truthy_int ⟨H, I, q⟩
  | str y =>
    obtain ⟨t, rfl⟩ := rx
    obtain ⟨hy, e'⟩ : y.length ≤ sizeLine ∧ k = ((y.length : Int) != 0) := e
    subst e'
    exact PySem.P.truthy_str (by omega) ⟨H, I.tok _, q⟩
  | byt y =>
    obtain ⟨t, rfl⟩ := rx
    obtain ⟨hy, e'⟩ : y.size ≤ sizeLine ∧ k = ((y.size : Int) != 0) := e
    subst e'
    exact PySem.W.truthy_bytes (by omega) ⟨H, I.tok _, q⟩
  | ref p =>
    cases rx
    have e' : (∃ xs, SqL X.K H p xs ∧ k = !xs.isEmpty) ∨ (∃ xs, SqT X.K H p xs ∧ k = !xs.isEmpty) ∨ ∃ kvs, H p = some (.dK kvs) ∧ k = !kvs.isEmpty := e
    rcases e' with ⟨xs, hx, e'⟩ | ⟨xs, hx, e'⟩ | ⟨kvs, hx, e'⟩
    · subst e'
      obtain ⟨its, r, pl, hz⟩ := I.list hx
      have hlen := r.length
      exact wpAny_truthy_list pl.isList (by simp only [List.size_toArray]; omega) ⟨H, I.tok _, by rw [isEmpty_of r]; exact q⟩
    · subst e'
      obtain ⟨its, r, pl, hz⟩ := I.tuple hx
      have hlen := r.length
      exact truthy_tuple pl (by simp only [List.size_toArray]; omega) ⟨H, I.tok _, by rw [isEmpty_of r]; exact q⟩
    · subst e'
      obtain ⟨hz, hS, vs, r, m⟩ : kvs.length ≤ sizeLine ∧ (p == sysModules) = false ∧ ∃ vs, KV kvs vs ∧ s.heap.DictOf (mixKind X.prog X.w) p vs := I.hok p _ hx
      have hlen : kvs.length = vs.length := Paired.length r
      exact wpAny_truthy_dict hS m (by omega) ⟨H, I.tok _, by rw [isEmpty_kv r]; exact q⟩
  | _ => exact (show False from e).elim
/-- any expression whose test is its value's truth (a name, a call, a subscript, a field ..: he by fun _ => rfl) -/
theorem pt_truth (ha : PE X a ta) (he : ∀ whole, isTrue a X.env whole = (do let v ← whole; standAt a.pos; holding [v] (truthy v))) :
    PT X a (fun σ H Q => ta σ H fun x H' => ∃ k, TruV X.K x H' k ∧ Q k H') := by
  intro pins s σ H Q I h
  exact isTrue_plain (thn (ha pins s σ H _ I h) fun v s1 ⟨x, H1, I1, r1, q1⟩ => tru_ok pins s1 σ H1 x v Q I1 r1 q1) (he _)

/-! ### strs and bytes -/
theorem pe_byt {x : List UInt8} {k : Nat} : PE X (.Constant (.bytes x) k pos) (fun _ H Q => Q (.byt x.toArray) H) := fun _ _ _ H _ I h => PySem.W.Constant_bytes ⟨.byt x.toArray, H, I.tok _, ⟨_, rfl⟩, h⟩
theorem op_add_str : OpR X (binaryOp .Add) (fun x y H Q => ∃ i j, x = .str i ∧ y = .str j ∧ i.length + j.length ≤ sizeLine ∧ Q (.str (i ++ j)) H) := by
  intro pins s σ H x y v u Q I rx ry h
  obtain ⟨i, j, rfl, rfl, hz, q⟩ := h
  obtain ⟨t, rfl⟩ := rx
  obtain ⟨t', rfl⟩ := ry
  exact add_str (fun t' tk => ⟨.str (i ++ j), H, I.tok _, ⟨_, rfl⟩, q⟩) hz
theorem iop_add_str : OpR X (inplaceOp .Add) (fun x y H Q => ∃ i j, x = .str i ∧ y = .str j ∧ i.length + j.length ≤ sizeLine ∧ Q (.str (i ++ j)) H) := by
  intro pins s σ H x y v u Q I rx ry h
  obtain ⟨i, j, rfl, rfl, hz, q⟩ := h
  obtain ⟨t, rfl⟩ := rx
  obtain ⟨t', rfl⟩ := ry
  exact iadd_str (fun t' tk => ⟨.str (i ++ j), H, I.tok _, ⟨_, rfl⟩, q⟩) hz
theorem op_add_byt : OpR X (binaryOp .Add) (fun x y H Q => ∃ i j, x = .byt i ∧ y = .byt j ∧ i.size + j.size ≤ 16777216 ∧ Q (.byt (i ++ j)) H) := by
  intro pins s σ H x y v u Q I rx ry h
  obtain ⟨i, j, rfl, rfl, hz, q⟩ := h
  obtain ⟨t, rfl⟩ := rx
  obtain ⟨t', rfl⟩ := ry
  exact PySem.W.KBy.add_bytes hz (fun t' tk => ⟨.byt (i ++ j), H, I.tok _, ⟨_, rfl⟩, q⟩)

def PlainIxT (b : Expr) : Prop := ∀ o i, subscripted b false o i = operate [o, i] (getItem o i)
/-- s[i], 0 ≤ i < len -/
theorem pe_item_str (ha : PE X a ta) (hb : PE X b tb) (hs : PlainIxT b) :
    PE X (.Subscript a b pos) (tOp (fun x y H Q => ∃ z i c, x = .str z ∧ y = .int i ∧ 0 ≤ i ∧ i < 2 ^ 63 ∧ i < z.length ∧ z.cps[i.toNat]? = some c ∧ Q (.str ⟨#[c]⟩) H) ta tb) := by
  intro pins s σ H Q I h
  refine Subscript_ (binT ha hb I h fun v u s2 x y H2 I2 rx ry q => ?_)
  obtain ⟨z, i, c, rfl, rfl, h0, h63, h1, hc, q⟩ := q
  obtain ⟨t, rfl⟩ := rx
  obtain ⟨t', rfl⟩ := ry
  have e : seqIndex? i z.length = some i.toNat := PySem.StrLaws.seqIndex_nonneg h0 h1
  exact tail_any (typeIs_str s2 z t) slot_str_getitem.lookup (getItem_str (c := c) (by
    have e1 : decide (i < -(2 ^ 63 : Int)) = false := decide_eq_false (by omega)
    have e2 : decide (i ≥ 2 ^ 63) = false := decide_eq_false (by omega)
    rw [e1, e2] <;> rfl) (by rw [e]; exact hc) ⟨.str ⟨#[c]⟩, H2, I2.tok _, ⟨_, rfl⟩, q⟩) (hs _ _)
/-- b[i], 0 ≤ i < len -/
theorem pe_item_byt (ha : PE X a ta) (hb : PE X b tb) (hs : PlainIxT b) :
    PE X (.Subscript a b pos) (tOp (fun x y H Q => ∃ (z : List UInt8) (i : Int), x = .byt z.toArray ∧ y = .int i ∧ z.length ≤ sizeLine ∧ 0 ≤ i ∧ i < z.length ∧ Q (.int ((z.getD i.toNat 0).toNat : Nat)) H) ta tb) := by
  intro pins s σ H Q I h
  refine Subscript_ (binT ha hb I h fun v u s2 x y H2 I2 rx ry q => ?_)
  obtain ⟨z, i, rfl, rfl, hz, h0, h1, q⟩ := q
  obtain ⟨t, rfl⟩ := rx
  obtain ⟨t', rfl⟩ := ry
  have hl : sizeLine = 16777216 := sizeLine_eq
  exact tail_any (PySem.W.typeIs_bytes s2 z.toArray t) PySem.W.FB.slot_bytes_getitem.lookup (PySem.W.getItem_bytes (by omega) h0 h1 ⟨.int ((z.getD i.toNat 0).toNat : Nat), H2, I2.tok _, ⟨_, rfl⟩, q⟩) (hs _ _)

/-! ### scalar builtins, by CallR -/
theorem vals1 {x : V} {us : List Value} (r : Vals [x] us) : ∃ u, us = [u] ∧ RelV x u := by
  cases r with
  | cons r1 r2 => cases r2; exact ⟨_, rfl, r1⟩
theorem vals2 {x y : V} {us : List Value} (r : Vals [x, y] us) : ∃ u w', us = [u, w'] ∧ RelV x u ∧ RelV y w' := by
  cases r with
  | cons r1 r2 =>
    cases r2 with
    | cons r3 r4 => cases r4; exact ⟨_, _, rfl, r1, r3⟩
theorem call_abs : CallR X (.builtin "abs") (fun xs H Q => ∃ i, xs = [.int i] ∧ Q (.int (if i < 0 then -i else i)) H) := by
  intro pins s σ H xs us Q I r h
  obtain ⟨i, rfl, q⟩ := h
  obtain ⟨u, rfl, t, rfl⟩ := vals1 r
  exact call_abs_int fun u tk => ⟨.int (if i < 0 then -i else i), H, I.tok _, ⟨_, rfl⟩, q⟩
theorem call_max2 (hc : X.calm = true) : CallR X (.builtin "max") (fun xs H Q => ∃ i j, xs = [.int i, .int j] ∧ Q (.int (if j > i then j else i)) H) := by
  intro pins s σ H xs us Q I r h
  obtain ⟨i, j, rfl, q⟩ := h
  obtain ⟨u, w', rfl, ⟨t, rfl⟩, ⟨t', rfl⟩⟩ := vals2 r
  refine max_two_ints (I.ok.hd hc) fun h' tk k => ⟨_, H, I.kept k, ?_, q⟩
  by_cases hj : j > i
  · rw [if_pos hj, if_pos hj]; exact ⟨_, rfl⟩
  · rw [if_neg hj, if_neg hj]; exact ⟨_, rfl⟩
theorem call_min2 (hc : X.calm = true) : CallR X (.builtin "min") (fun xs H Q => ∃ i j, xs = [.int i, .int j] ∧ Q (.int (if j < i then j else i)) H) := by
  intro pins s σ H xs us Q I r h
  obtain ⟨i, j, rfl, q⟩ := h
  obtain ⟨u, w', rfl, ⟨t, rfl⟩, ⟨t', rfl⟩⟩ := vals2 r
  refine min_two_ints (I.ok.hd hc) fun h' tk k => ⟨_, H, I.kept k, ?_, q⟩
  by_cases hj : j < i
  · rw [if_pos hj, if_pos hj]; exact ⟨_, rfl⟩
  · rw [if_neg hj, if_neg hj]; exact ⟨_, rfl⟩
theorem call_int1 : CallR X (.type "int") (fun xs H Q => (∃ i, xs = [.int i] ∧ Q (.int i) H) ∨ ∃ k, xs = [.bl k] ∧ Q (.int (if k then 1 else 0)) H) := by
  intro pins s σ H xs us Q I r h
  rcases h with ⟨i, rfl, q⟩ | ⟨k, rfl, q⟩
  · obtain ⟨u, rfl, t, rfl⟩ := vals1 r
    exact call_int_int ⟨.int i, H, I, ⟨_, rfl⟩, q⟩
  · obtain ⟨u, rfl, r1⟩ := vals1 r
    cases r1
    exact call_int_bool ⟨.int (if k then 1 else 0), H, I.tok _, ⟨_, rfl⟩, q⟩
theorem call_bool1 : CallR X (.type "bool") (fun xs H Q => (∃ i, xs = [.int i] ∧ Q (.bl (i != 0)) H) ∨ ∃ k, xs = [.bl k] ∧ Q (.bl k) H) := by
  intro pins s σ H xs us Q I r h
  rcases h with ⟨i, rfl, q⟩ | ⟨k, rfl, q⟩
  · obtain ⟨u, rfl, t, rfl⟩ := vals1 r
    exact call_bool_int ⟨.bl (i != 0), H, I, rfl, q⟩
  · obtain ⟨u, rfl, r1⟩ := vals1 r
    cases r1
    exact call_bool_bool ⟨.bl k, H, I, rfl, q⟩
theorem call_str_int : CallR X (.type "str") (fun xs H Q => ∃ i, xs = [.int i] ∧ i.natAbs.log2 < 1920 ∧ Q (.str (toString i)) H) := by
  intro pins s σ H xs us Q I r h
  obtain ⟨i, rfl, hz, q⟩ := h
  obtain ⟨u, rfl, t, rfl⟩ := vals1 r
  exact PySem.P.str_of_int hz ⟨.str _, H, I.tok _, ⟨_, rfl⟩, q⟩
theorem call_ord : CallR X (.builtin "ord") (fun xs H Q => ∃ x, xs = [.str x] ∧ x.length = 1 ∧ Q (.int (x.cps.getD 0 0 : Nat)) H) := by
  intro pins s σ H xs us Q I r h
  obtain ⟨x, rfl, hz, q⟩ := h
  obtain ⟨u, rfl, t, rfl⟩ := vals1 r
  exact ord_of_one hz ⟨.int _, H, I.tok _, ⟨_, rfl⟩, q⟩
theorem call_chr : CallR X (.builtin "chr") (fun xs H Q => ∃ i, xs = [.int i] ∧ 0 ≤ i ∧ i ≤ 1114111 ∧ Q (.str ⟨#[i.toNat]⟩) H) := by
  intro pins s σ H xs us Q I r h
  obtain ⟨i, rfl, h0, h1, q⟩ := h
  obtain ⟨u, rfl, t, rfl⟩ := vals1 r
  exact chr_of_range h0 h1 ⟨.str _, H, I.tok _, ⟨_, rfl⟩, q⟩
/-- len of a str, a bytes, a list, a tuple -/
def LenV (K : PySem.W.Frag) (x : V) (H : Hp) (n : Nat) : Prop :=
  match x with
  | .str y => y.length ≤ sizeLine ∧ n = y.length
  | .byt y => y.size ≤ sizeLine ∧ n = y.size
  | .ref p => (∃ xs, SqL K H p xs ∧ n = xs.length) ∨ ∃ xs, SqT K H p xs ∧ n = xs.length
  | _ => False
theorem call_len : CallR X (.builtin "len") (fun xs H Q => ∃ x n, xs = [x] ∧ LenV X.K x H n ∧ Q (.int n) H) := by
  intro pins s σ H xs us Q I r h
  obtain ⟨x, n, rfl, e, q⟩ := h
  obtain ⟨u, rfl, rx⟩ := vals1 r
  have hl := line63
  have hs : sizeLine = 16777216 := sizeLine_eq
  cases x with
  | str y =>
    obtain ⟨t, rfl⟩ := rx
    obtain ⟨hy, e'⟩ : y.length ≤ sizeLine ∧ n = y.length := e
    subst e'
    exact len_str (by omega) ⟨.int _, H, I.tok _, ⟨_, rfl⟩, q⟩
  | byt y =>
    obtain ⟨t, rfl⟩ := rx
    obtain ⟨hy, e'⟩ : y.size ≤ sizeLine ∧ n = y.size := e
    subst e'
    exact PySem.W.len_bytes (by omega) ⟨.int _, H, I.tok _, ⟨_, rfl⟩, q⟩
  | ref p =>
    cases rx
    have e' : (∃ xs, SqL X.K H p xs ∧ n = xs.length) ∨ ∃ xs, SqT X.K H p xs ∧ n = xs.length := e
    rcases e' with ⟨xs, hx, e'⟩ | ⟨xs, hx, e'⟩
    · subst e'
      obtain ⟨its, r', pl, hz⟩ := I.list hx
      have hlen := r'.length
      exact Calls.call_len_list pl.isList (by simp only [List.size_toArray]; omega) ⟨.int xs.length, H, I.tok _, ⟨_, by simp only [List.size_toArray]; rw [hlen]⟩, q⟩
    · subst e'
      obtain ⟨its, r', pl, hz⟩ := I.tuple hx
      have hlen := r'.length
      exact len_tuple pl (by simp only [List.size_toArray]; omega) ⟨.int xs.length, H, I.tok _, ⟨_, by simp only [List.size_toArray]; rw [hlen]⟩, q⟩
  | _ => exact (show False from e).elim
/-- divmod: a new tuple -/
theorem call_divmod : CallR X (.builtin "divmod") (fun xs H Q => ∃ i j, xs = [.int i, .int j] ∧ CDiv i j ∧ ∀ p, H p = none → Q (.ref p) (upd H p (.tup [.int (i / j), .int (i % j)]))) := by
  intro pins s σ H xs us Q I r h
  obtain ⟨i, j, rfl, ⟨h1, h2⟩, q⟩ := h
  obtain ⟨u, w', rfl, ⟨t, rfl⟩, ⟨t', rfl⟩⟩ := vals2 r
  refine divmod_int (by omega) ?_ (.inl (PyProof.noPylong_small (by omega)))
  rw [Int.fdiv_eq_ediv_of_nonneg i (by omega), Int.fmod_eq_emod_of_nonneg i (by omega)]
  have hn : H s.heap.objs.size = none := I.hok.fresh (Nat.le_refl _)
  refine ⟨.ref s.heap.objs.size, _, ?_, rfl, q _ hn⟩
  refine I.laid (fun b o e => Heap.get?_push_of_some _ e) (Nat.le_refl _) ⟨by simp only [List.length_cons, List.length_nil]; rw [sizeLine_eq]; decide, [.int (i / j) s.toks, .int (i % j) (s.toks + 1)], .cons ⟨_, rfl⟩ (.cons ⟨_, rfl⟩ .nil), ?_⟩
  exact ⟨_, Heap.get?_push_size s.heap rfl, rfl, 0, rfl⟩
end
end L2

namespace L2
open PySem PySem.Spec PyProof.Rows

/-! ### an instance, its attributes a map -/
structure ObjM (h : Heap) (x dx C : Addr) (mA : Str → Option Value) : Prop where
  obj : h.get? x = some (PySem.W.instObj C dx)
  ns : h.Ns1 dx mA
  ne : dx ≠ x

theorem lookIn_ns {h : Heap} {dx : Addr} {mA : Str → Option Value} (n : h.Ns1 dx mA) : ∃ od, h.get? dx = some od ∧ ∀ name, PySem.W.lookIn name od = some (mA name) := by
  obtain ⟨o, es, ep, ho, hd, hk, _, hm⟩ := n
  refine ⟨o, ho, fun name => ?_⟩
  have e := hm name
  unfold nsFind findBy at e
  rw [← Array.find?_toList] at e
  unfold PySem.W.lookIn
  rw [hd]
  dsimp only
  split
  · rename_i y q
    rw [q] at e
    exact congrArg some e
  · rename_i q
    rw [q] at e
    have a : es.toList.any (·.refKey) = false := by
      rw [List.any_eq_false]
      intro y hy
      obtain ⟨z, t, hkey⟩ := hk y (Array.mem_toList_iff.mp hy)
      simp [DictEntry.refKey, hkey]
    have a' : ¬ es.toList.any (·.refKey) = true := by rw [a]; exact Bool.false_ne_true
    rw [if_neg a']
    exact congrArg some e

theorem ObjM.look {h : Heap} {x dx C : Addr} {mA : Str → Option Value} (I : ObjM h x dx C mA) : ∃ od, PySem.W.InstAt h x (PySem.W.instObj C dx) C (some od) ∧ ∀ name, PySem.W.lookIn name od = some (mA name) :=
  let ⟨od, ho, hl⟩ := lookIn_ns I.ns
  ⟨od, ⟨I.obj, rfl, rfl, ho⟩, hl⟩

section
variable {prog : Program} {w : World} {A : Around} {E : Value → Shared → Prop} {s : Shared} {K : PySem.W.Frag} {x dx C f : Addr} {mA : Str → Option Value} {name : Str} {v : Value}

theorem get_map {expr : Bool} {Q : Value → Shared → Prop} (X : K.In s.heap) (I : ObjM s.heap x dx C mA) (hg : PySem.W.plainGet K C name = true) (hh : PySem.W.hasDictIn K C = true)
    (ha : PySem.W.findIn K (.ref C) name = some none) (hv : mA name = some v) (hv' : PySem.W.handedIn v = true) (h : Q v { s with toks := s.toks + 1 }) :
    wpAny (model prog w) A (getAttr (.ref x) name expr) Q E s := by
  obtain ⟨od, J, hl⟩ := I.look
  exact PySem.W.get_value X J (PySem.W.plainGet_of hg).1 (PySem.W.findObj_own hh ha rfl (by rw [hl, hv])) hv' h

theorem get_const {expr : Bool} {a : Value} {Q : Value → Shared → Prop} (X : K.In s.heap) (I : ObjM s.heap x dx C mA) (hg : PySem.W.plainGet K C name = true) (hh : PySem.W.hasDictIn K C = true)
    (ha : PySem.W.findIn K (.ref C) name = some (some a)) (hn : PySem.W.specialIn K a "__get__" = some none) (hc : PySem.W.copiedNames.contains name = false) (hv : mA name = none) (hv' : PySem.W.handedIn a = true)
    (h : Q a { s with toks := s.toks + 1 }) : wpAny (model prog w) A (getAttr (.ref x) name expr) Q E s := by
  obtain ⟨od, J, hl⟩ := I.look
  exact PySem.W.get_value X J (PySem.W.plainGet_of hg).1 (PySem.W.findObj_cls hh ha hn hv' hc (by rw [hl, hv])) hv' h

theorem get_meth {pl : Sem Bool} {Q : Value × List Value → Shared → Prop} (X : K.In s.heap) (I : ObjM s.heap x dx C mA) (hg : PySem.W.plainGet K C name = true)
    (hf : PySem.W.findIn K (.ref C) name = some (some (.ref f))) (ht : PySem.W.isFn K (.ref f) = true) (hv : mA name = none) (h : Q (.ref f, [.ref x]) s) :
    wpAny (model prog w) A (getMethod (.ref x) name pl) Q E s := by
  obtain ⟨od, J, hl⟩ := I.look
  exact PySem.W.method_fn X J (PySem.W.plainGet_of hg).1 (PySem.W.plainGet_of hg).2 hf (beq_iff_eq.mp ht) (by show (PySem.W.lookIn name od).map (·.isSome) = some false; rw [hl, hv]; rfl) h

theorem set_map {ns : List Str} {Q : Unit → Shared → Prop} (X : K.In s.heap) (I : ObjM s.heap x dx C mA)
    (hs : PySem.W.findIn K (.ref C) "__setattr__" = some (some (.builtin "object.__setattr__"))) (hp : PySem.W.plainOver K C = true) (ht : PySem.W.takerIn K C name = some none) (hh : PySem.W.hasDictIn K C = true)
    (hw : PySem.Within mA ns) (hsz : ns.length ≤ sizeLine)
    (h : ∀ h', ObjM h' x dx C (fun y => if y = name then some v else mA y) → Heap.SameBut dx s.heap h' → Q () { s with heap := h', toks := s.toks + 2 }) :
    wpAny (model prog w) A (setAttr (.ref x) name v) Q E s := by
  obtain ⟨od, J, hl⟩ := I.look
  refine PySem.W.set_plain X J hs (PySem.W.osa_open (s := { s with toks := s.toks + 1 }) (r := none) X J hp ht fun b => ?_)
  obtain ⟨cd, hc, hd'⟩ := PySem.W.any_some hh
  have hx : s.heap.get? x = some ⟨.ref C, some dx, .plain, #[]⟩ := I.obj
  refine wpAny_bind (wpAny_pure (wpAny_bind (wpAny_bind (wpAny_loadPart hx (wpAny_bind (PySem.W.Looks.here (s := { s with toks := s.toks + 1 }) (PySem.W.looks_clsIn X hc) ?_))))))
  rw [hd']
  refine wpAny_pure (a := some dx) (wpAny_bind (wpAny_pure (wpAny_bind ?_)))
  refine wpAny_nsSet1 (s := { s with toks := s.toks + 1 }) I.ns fun h' hn2 hs2 => ?_
  obtain ⟨oD, esD, epD, hoD, hdD, hcD⟩ := hn2.count (PySem.Within.cons name v hw)
  refine wpAny_bind (wpAny_lookBehind hoD (by rw [hdD]; exact pastItsLine_dict (Nat.le_trans hcD (by rw [List.length_cons]; omega))) ?_)
  exact wpAny_pure (h _ ⟨(hs2.2 _ (Ne.symm I.ne)).trans I.obj, hn2, I.ne⟩ hs2)

/-- C(..): the dict at the heap's end, the instance behind it; then its __init__ -/
theorem make_map {R : Result → Shared → Prop} {vs : List Value} {kw : List (Str × Value)} (X : K.In s.heap) (hm : PySem.W.makesIn K C = true)
    (hi : PySem.W.findIn K (.ref C) "__init__" = some (some (.ref f))) (hf : PySem.W.typeIn K (.ref f) = some (.type "function"))
    (h : codeAny (model prog w) (A.under (.builtin "type.__call__" ⟨.ref C :: vs, kw⟩)) (.call (.ref f) ⟨.ref (s.heap.objs.size + 1) :: vs, kw⟩) (PySem.W.InitBack (s.heap.objs.size + 1) R)
      { s with heap := (s.heap.push PySem.W.emptyDict).push (PySem.W.instObj C s.heap.objs.size) }) :
    codeAny (model prog w) A (.call (.ref C) ⟨vs, kw⟩) R s := by
  obtain ⟨hh, g, d, t, os⟩ := s
  exact PySem.W.make_core (PySem.W.makes_of X hm) (PySem.W.looks_findIn X hi) (fun self => PySem.W.bind_fn X self hf) (.inl rfl) h
/-- C() where there is no __init__ but object's -/
theorem make_map0 {R : Result → Shared → Prop} (X : K.In s.heap) (hm : PySem.W.makesIn K C = true)
    (hi : PySem.W.findIn K (.ref C) "__init__" = some (some (.builtin "object.__init__")))
    (hb : ∀ self, PySem.W.Looks (model prog w) s.heap (bindSpecial (.builtin "object.__init__") self) (.builtin "object.__init__", [self]))
    (h : codeAny (model prog w) (A.under (.builtin "type.__call__" ⟨[.ref C], []⟩)) (.call (.builtin "object.__init__") ⟨[.ref (s.heap.objs.size + 1)], []⟩) (PySem.W.InitBack (s.heap.objs.size + 1) R)
      { s with heap := (s.heap.push PySem.W.emptyDict).push (PySem.W.instObj C s.heap.objs.size) }) :
    codeAny (model prog w) A (.call (.ref C) ⟨[], []⟩) R s := by
  obtain ⟨hh, g, d, t, os⟩ := s
  exact PySem.W.make_core (PySem.W.makes_of X hm) (PySem.W.looks_findIn X hi) hb (.inr ⟨rfl, rfl⟩) h
end

/-! ### the attributes as a list of pairs -/
def putF (f : Str) (v : V) : List (Str × V) → List (Str × V)
  | [] => [(f, v)]
  | (g, x) :: r => if g = f then (g, v) :: r else (g, x) :: putF f v r
theorem lookup_putF (f g : Str) (v : V) : ∀ fs : List (Str × V), (putF f v fs).lookup g = if g = f then some v else fs.lookup g
  | [] => by
    show List.lookup g [(f, v)] = _
    by_cases h : g = f
    · have hb : (g == f) = true := beq_iff_eq.mpr h
      simp only [List.lookup, hb, if_pos h]
    · have hb : (g == f) = false := beq_eq_false_iff_ne.mpr h
      simp only [List.lookup, hb, if_neg h]
  | (k, x) :: r => by
    have ih := lookup_putF f g v r
    rw [show putF f v ((k, x) :: r) = (if k = f then (k, v) :: r else (k, x) :: putF f v r) from rfl]
    by_cases hk : k = f
    · rw [if_pos hk]
      by_cases h : g = k
      · have hb : (g == k) = true := beq_iff_eq.mpr h
        simp only [List.lookup, hb, if_pos (h.trans hk)]
      · have hb : (g == k) = false := beq_eq_false_iff_ne.mpr h
        simp only [List.lookup, hb, if_neg (fun e : g = f => h (e.trans hk.symm))]
    · rw [if_neg hk]
      by_cases h : g = k
      · have hb : (g == k) = true := beq_iff_eq.mpr h
        simp only [List.lookup, hb, if_neg (fun e : g = f => hk (h.symm.trans e))]
      · have hb : (g == k) = false := beq_eq_false_iff_ne.mpr h
        simp only [List.lookup, hb]
        exact ih
theorem keys_putF (f : Str) (v : V) : ∀ fs : List (Str × V), f ∈ (putF f v fs).map (·.1) ∧ ∀ g, g ∈ fs.map (·.1) → g ∈ (putF f v fs).map (·.1)
  | [] => ⟨by simp [putF], fun g h => by simp at h⟩
  | (k, x) :: r => by
    obtain ⟨i1, i2⟩ := keys_putF f v r
    rw [show putF f v ((k, x) :: r) = (if k = f then (k, v) :: r else (k, x) :: putF f v r) from rfl]
    by_cases hk : k = f
    · rw [if_pos hk]
      subst hk
      exact ⟨by simp, fun g h => by simpa using h⟩
    · rw [if_neg hk]
      refine ⟨?_, fun g h => ?_⟩
      · rw [List.map_cons]
        exact List.mem_cons_of_mem _ i1
      · rw [List.map_cons] at h ⊢
        rcases List.mem_cons.mp h with e | e
        · exact List.mem_cons.mpr (.inl e)
        · exact List.mem_cons_of_mem _ (i2 g e)
theorem length_putF (f : Str) (v : V) : ∀ fs : List (Str × V), (putF f v fs).length ≤ fs.length + 1
  | [] => by simp [putF]
  | (k, x) :: r => by
    have ih := length_putF f v r
    rw [show putF f v ((k, x) :: r) = (if k = f then (k, v) :: r else (k, x) :: putF f v r) from rfl]
    by_cases hk : k = f
    · rw [if_pos hk, List.length_cons, List.length_cons]; omega
    · rw [if_neg hk, List.length_cons, List.length_cons]; omega

theorem RelO.some_of {v : V} {o : Option Value} (r : RelO (some v) o) : ∃ u, o = some u ∧ RelV v u := by
  cases o with
  | none => exact (show False from r).elim
  | some u => exact ⟨u, rfl, r⟩
theorem RelO.none_of {o : Option Value} (r : RelO none o) : o = none := by
  cases o with
  | none => rfl
  | some u => exact (show False from r).elim
theorem handed_of {v : V} {u : Value} (r : RelV v u) : PySem.W.handedIn u = true := by
  cases v with
  | non => cases (show u = Value.none from r); rfl
  | bl b => cases (show u = Value.bool b from r); rfl
  | int i => obtain ⟨t, e⟩ := (show ∃ t, u = Value.int i t from r); cases e; rfl
  | str x => obtain ⟨t, e⟩ := (show ∃ t, u = Value.str x t from r); cases e; rfl
  | byt b => obtain ⟨t, e⟩ := (show ∃ t, u = Value.bytes b t from r); cases e; rfl
  | flt b => obtain ⟨t, e⟩ := (show ∃ t, u = Value.float b t from r); cases e; rfl
  | ref a => cases (show u = Value.ref a from r); rfl
  | ty n => cases (show u = Value.type n from r); rfl

section
variable {P : Program} {w : World} {H H' : Hp} {h h' : Heap} {a C dx : Addr} {fs fs' : List (Str × V)}
theorem ins_get (hok : HOk P w H h) (e : H a = some (.ins C dx fs)) : ∃ mA, ObjM h a dx C mA ∧ (∀ f, RelO (fs.lookup f) (mA f)) ∧ PySem.Within mA (fs.map (·.1)) ∧ fs.length ≤ 1000 ∧ H dx = some (.own a) := by
  obtain ⟨d, z, ne, ob, mA, n, r, q⟩ := (show ObjOk P w H h a (.ins C dx fs) from hok a _ e)
  exact ⟨mA, ⟨ob, n, ne⟩, r, q, z, d⟩
end

/-! ### what of the text a class must have -/
structure Cls (K : PySem.W.Frag) (C : Addr) : Prop where
  pg : PySem.W.plainGet K C Str.empty = true
  hd : PySem.W.hasDictIn K C = true
  po : PySem.W.plainOver K C = true
  sa : PySem.W.findIn K (.ref C) "__setattr__" = some (some (.builtin "object.__setattr__"))
theorem Cls.get {K : PySem.W.Frag} {C : Addr} (c : Cls K C) (f : Str) : PySem.W.plainGet K C f = true := c.pg
/-- no class of it has the name -/
def NoAttr (K : PySem.W.Frag) (C : Addr) (f : Str) : Prop := PySem.W.findIn K (.ref C) f = some none
theorem NoAttr.taker {K : PySem.W.Frag} {C : Addr} {f : Str} (n : NoAttr K C f) : PySem.W.takerIn K C f = some none := by
  unfold PySem.W.takerIn
  rw [show PySem.W.findIn K (.ref C) f = some none from n]
  rfl
/-- a constant of the class -/
structure Con (K : PySem.W.Frag) (C : Addr) (f : Str) (v : V) (u : Value) : Prop where
  at_ : PySem.W.findIn K (.ref C) f = some (some u)
  rel : RelV v u
  get : PySem.W.specialIn K u "__get__" = some none
  cp : PySem.W.copiedNames.contains f = false
/-- a method: a plain def of the class or of one above it -/
structure Meth (K : PySem.W.Frag) (C : Addr) (m : Str) (f : Addr) : Prop where
  at_ : PySem.W.findIn K (.ref C) m = some (some (.ref f))
  fn : PySem.W.isFn K (.ref f) = true
  kp : PySem.W.keepIn K (.ref f) = true

section
variable {X : Cx} {pins : List (Addr × Obj)} {σ : St} {H : Hp} {s : Shared} {a C dx : Addr} {fs : List (Str × V)} {f : Str} {v : V} {A : Around} {E : Value → Shared → Prop}

theorem getattr_ok {b : Bool} {Q : Value → Shared → Prop} (I : Inv X pins σ H s) (e : H a = some (.ins C dx fs)) (c : Cls X.K C) (n : NoAttr X.K C f) (l : fs.lookup f = some v)
    (h : ∀ u s', Inv X pins σ H s' → RelV v u → Q u s') : wpAny (model X.prog X.w) A (getAttr (.ref a) f b) Q E s := by
  obtain ⟨mA, O, r, _, _, _⟩ := ins_get I.hok e
  obtain ⟨u, hu, ru⟩ := RelO.some_of (v := v) (o := mA f) (by rw [← l]; exact r f)
  exact get_map I.kIn O (c.get f) c.hd n hu (handed_of ru) (h u _ (I.tok _) ru)

theorem getcon_ok {b : Bool} {u : Value} {Q : Value → Shared → Prop} (I : Inv X pins σ H s) (e : H a = some (.ins C dx fs)) (c : Cls X.K C) (k : Con X.K C f v u) (l : fs.lookup f = none)
    (h : ∀ s', Inv X pins σ H s' → Q u s') : wpAny (model X.prog X.w) A (getAttr (.ref a) f b) Q E s := by
  obtain ⟨mA, O, r, _, _, _⟩ := ins_get I.hok e
  have hn : mA f = none := RelO.none_of (by rw [← l]; exact r f)
  exact get_const I.kIn O (c.get f) c.hd k.at_ k.get k.cp hn (handed_of k.rel) (h _ (I.tok _))

theorem getmeth_ok {m : Str} {g : Addr} {pl : Sem Bool} {Q : Value × List Value → Shared → Prop} (I : Inv X pins σ H s) (e : H a = some (.ins C dx fs)) (c : Cls X.K C) (k : Meth X.K C m g) (l : fs.lookup m = none)
    (h : Q (.ref g, [.ref a]) s) : wpAny (model X.prog X.w) A (getMethod (.ref a) m pl) Q E s := by
  obtain ⟨mA, O, r, _, _, _⟩ := ins_get I.hok e
  have hn : mA m = none := RelO.none_of (by rw [← l]; exact r m)
  exact get_meth I.kIn O (c.get m) k.at_ k.fn hn h

theorem setattr_ok {y : V} {u : Value} {Q : Unit → Shared → Prop} (I : Inv X pins σ H s) (e : H a = some (.ins C dx fs)) (c : Cls X.K C) (n : NoAttr X.K C f) (hl : fs.length < 1000) (ry : RelV y u)
    (h : ∀ s', Inv X pins σ (upd H a (.ins C dx (putF f y fs))) s' → Q () s') : wpAny (model X.prog X.w) A (setAttr (.ref a) f u) Q E s := by
  obtain ⟨mA, O, r, wi, _, ho⟩ := ins_get I.hok e
  have hz : (fs.map (·.1)).length ≤ sizeLine := by rw [List.length_map, sizeLine_eq]; omega
  refine set_map I.kIn O c.sa c.po n.taker c.hd wi hz fun h' O' sb => h _ ?_
  have hd : ∃ o, h'.get? dx = some o := let ⟨o, _, _, e', _⟩ := O'.ns; ⟨o, e'⟩
  refine I.write (x := a) (e := dx) (by rw [e]; exact True.intro) (.inr ho) (fun b q hb z => (sb.2 b hb).trans z) hd ?_
  refine ⟨by rw [upd_ne O.ne]; exact ho, ?_, O.ne, O'.obj, _, O'.ns, fun g => ?_, fun g hg => ?_⟩
  · have := length_putF f y fs; omega
  · show RelO ((putF f y fs).lookup g) (if g = f then some u else mA g)
    rw [lookup_putF]
    by_cases q : g = f
    · rw [if_pos q, if_pos q]; exact ry
    · rw [if_neg q, if_neg q]; exact r g
  · by_cases q : g = f
    · rw [q]; exact (keys_putF f y fs).1
    · refine (keys_putF f y fs).2 g (wi g fun z => hg ?_)
      show (if g = f then some u else mA g) = none
      rw [if_neg q]; exact z

/-- a new instance, tracked, without attributes -/
theorem Inv.made (I : Inv X pins σ H s) : Inv X pins σ (upd (upd H s.heap.objs.size (.own (s.heap.objs.size + 1))) (s.heap.objs.size + 1) (.ins C s.heap.objs.size []))
    { s with heap := (s.heap.push PySem.W.emptyDict).push (PySem.W.instObj C s.heap.objs.size) } := by
  have e1 : (s.heap.push PySem.W.emptyDict).get? s.heap.objs.size = some PySem.W.emptyDict := Heap.get?_push_size s.heap rfl
  have e2 : ((s.heap.push PySem.W.emptyDict).push (PySem.W.instObj C s.heap.objs.size)).get? (s.heap.objs.size + 1) = some (PySem.W.instObj C s.heap.objs.size) := by
    have := Heap.get?_push_size (s.heap.push PySem.W.emptyDict) (o := PySem.W.instObj C s.heap.objs.size) rfl
    rwa [Heap.size_push] at this
  have e3 : (s.heap.push PySem.W.emptyDict).Ns s.heap.objs.size (fun _ => none) := ⟨PySem.W.emptyDict, #[], _, e1, rfl, (fun e he => absurd he (by simp)), fun _ => rfl⟩
  have I1 := I.laid (a := s.heap.objs.size) (o := .own (s.heap.objs.size + 1)) (h' := s.heap.push PySem.W.emptyDict) (t' := s.toks) (fun b u q => Heap.get?_push_of_some _ q) (Nat.le_refl _) ⟨_, e1⟩
  refine I1.laid (a := s.heap.objs.size + 1) (o := .ins C s.heap.objs.size []) (t' := s.toks) (fun b u q => Heap.get?_push_of_some _ q) (Nat.le_of_eq (Heap.size_push _ _)) ?_
  have ne : s.heap.objs.size ≠ s.heap.objs.size + 1 := Nat.ne_of_lt (Nat.lt_succ_self _)
  refine ⟨by rw [upd_ne ne, upd_same], Nat.zero_le _, ne, e2, fun _ => none, (Heap.Ns1.of_empty e3).at fun o q => Heap.get?_push_of_some _ q, fun _ => True.intro, fun y hy => absurd rfl hy⟩

/-- e.f where nothing but the object is asked: through attributeBase (super) and the last hold -/
theorem attr_of {prog : Program} {w : World} {env : Env} {e : Expr} {f : Str} {pos : Pos} {s : Shared} {Q : Value → Shared → Prop} (hb : attributeBase e f env (eval e env) = eval e env)
    (h : wpAny (model prog w) A (eval e env) (fun o s₁ => wpAny (model prog w) A (getAttr o f true) Q E s₁) E s) : wpAny (model prog w) A (eval (.Attribute e f pos) env) Q E s :=
  Attribute_any_ h (by rw [arm_eval_Attribute, hb])
end

/-! ### readings and rules -/
/-- e.f, an attribute of the instance -/
def tFld (K : PySem.W.Frag) (ta : TE) (f : Str) : TE := fun σ H Q => ta σ H fun x H1 => ∃ a C dx fs v, x = .ref a ∧ H1 a = some (.ins C dx fs) ∧ Cls K C ∧ NoAttr K C f ∧ fs.lookup f = some v ∧ Q v H1
/-- e.f, a constant of the class -/
def tCon (K : PySem.W.Frag) (ta : TE) (f : Str) : TE := fun σ H Q => ta σ H fun x H1 => ∃ a C dx fs v u, x = .ref a ∧ H1 a = some (.ins C dx fs) ∧ Cls K C ∧ Con K C f v u ∧ fs.lookup f = none ∧ Q v H1
/-- e.f = value -/
def sFld (K : PySem.W.Frag) (ta tv : TE) (f : Str) : TS := fun D σ H => tv σ H fun y H1 => ta σ H1 fun x H2 => ∃ a C dx fs, x = .ref a ∧ H2 a = some (.ins C dx fs) ∧ Cls K C ∧ NoAttr K C f ∧ fs.length < 1000 ∧
  D.nx σ (upd H2 a (.ins C dx (putF f y fs)))
/-- an augmented operator on two values -/
def InOp (X : Cx) (op : Operator) (rd : V → V → Hp → VK → Prop) : Prop :=
  ∀ (pins : List (Addr × Obj)) (s : Shared) (σ : St) (H : Hp) (x y : V) (u v : Value) (Q : VK), Inv X pins σ H s → RelV x u → RelV y v → rd x y H Q → wpAny (model X.prog X.w) X.A (inplaceOp op u v) (EP X pins σ Q) X.xe s
/-- e.f op= value -/
def sFldAug (K : PySem.W.Frag) (ta tv : TE) (rd : V → V → Hp → VK → Prop) (f : Str) : TS := fun D σ H => ta σ H fun x H1 => ∃ a C dx fs v, x = .ref a ∧ H1 a = some (.ins C dx fs) ∧ Cls K C ∧ NoAttr K C f ∧ fs.lookup f = some v ∧
  tv σ H1 fun y H2 => rd v y H2 fun z H3 => ∃ dx' fs', H3 a = some (.ins C dx' fs') ∧ fs'.length < 1000 ∧ D.nx σ (upd H3 a (.ins C dx' (putF f z fs')))

section
variable {X : Cx} {o e value : Expr} {f : Str} {pos pos' tpos : Pos} {ta tv : TE}
theorem pe_fld (he : PE X e ta) (hb : attributeBase e f X.env (eval e X.env) = eval e X.env) : PE X (.Attribute e f pos) (tFld X.K ta f) := by
  intro pins s σ H Q I h
  refine attr_of hb (thn (he pins s σ H _ I h) fun u s1 ⟨x, H1, I1, rx, a, C, dx, fs, v, ex, ea, c, n, l, q⟩ => ?_)
  subst ex
  obtain rfl : u = Value.ref a := rx
  exact getattr_ok I1 ea c n l fun u' s2 I2 ru => ⟨v, H1, I2, ru, q⟩
theorem pe_con (he : PE X e ta) (hb : attributeBase e f X.env (eval e X.env) = eval e X.env) : PE X (.Attribute e f pos) (tCon X.K ta f) := by
  intro pins s σ H Q I h
  refine attr_of hb (thn (he pins s σ H _ I h) fun u s1 ⟨x, H1, I1, rx, a, C, dx, fs, v, u0, ex, ea, c, k, l, q⟩ => ?_)
  subst ex
  obtain rfl : u = Value.ref a := rx
  exact getcon_ok I1 ea c k l fun s2 I2 => ⟨v, H1, I2, k.rel, q⟩
theorem ps_fld (ha : PE X o ta) (hv : PE X value tv) (hs : swapsWith value (some (.Attribute o f pos')) pos.line X.env = pure false) : PS X (.Assign [.Attribute o f pos'] value pos) (sFld X.K ta tv f) := by
  intro pins s σ H D I h
  refine plainObj_wpAny_Assign_Attribute (thn (hv pins s σ H _ I h) fun u s1 ⟨y, H1, I1, ry, q⟩ => thn (ha pins s1 σ H1 _ I1 q) fun ov s2 ⟨x, H2, I2, rx, a, C, dx, fs, ex, ea, c, n, l, q2⟩ => ?_) hs
  subst ex
  obtain rfl : ov = Value.ref a := rx
  exact setattr_ok I2 ea c n l ry fun s3 I3 => ⟨σ, _, I3, q2⟩
theorem ps_fldaug {op : Operator} {rd : V → V → Hp → VK → Prop} (ha : PE X o ta) (hv : PE X value tv) (hop : InOp X op rd) : PS X (.AugAssign (.Attribute o f tpos) op value pos) (sFldAug X.K ta tv rd f) := by
  intro pins s σ H D I h
  refine wpAny_AugAssign_AttributeAny (thn (ha pins s σ H _ I h) fun ov s1 ⟨x, H1, I1, rx, a, C, dx, fs, v, ex, ea, c, n, l, q⟩ => ?_)
  subst ex
  obtain rfl : ov = Value.ref a := rx
  refine getattr_ok I1 ea c n l fun u s2 I2 ru => thn (hv pins s2 σ H1 _ I2 q) fun w3 s3 ⟨y, H2, I3, ry, q3⟩ => thn (hop pins s3 σ H2 v y u w3 _ I3 ru ry q3) fun w4 s4 ⟨z, H3, I4, rz, dx', fs', ea', l', q4⟩ => ?_
  exact setattr_ok I4 ea' c n l' rz fun s5 I5 => ⟨σ, _, I5, q4⟩
def rAdd : V → V → Hp → VK → Prop := fun x y H Q => ∃ i j, x = .int i ∧ y = .int j ∧ Q (.int (i + j)) H
def rSub : V → V → Hp → VK → Prop := fun x y H Q => ∃ i j, x = .int i ∧ y = .int j ∧ Q (.int (i - j)) H
theorem in_add : InOp X .Add rAdd := by
  rintro pins s σ H x y u v Q I rx ry ⟨i, j, rfl, rfl, q⟩
  obtain ⟨t, rfl⟩ := (show ∃ t, u = Value.int i t from rx)
  obtain ⟨t', rfl⟩ := (show ∃ t', v = Value.int j t' from ry)
  exact PyProof.Rows.iadd_int ⟨.int (i + j), H, I.tok _, ⟨_, rfl⟩, q⟩
theorem in_sub : InOp X .Sub rSub := by
  rintro pins s σ H x y u v Q I rx ry ⟨i, j, rfl, rfl, q⟩
  obtain ⟨t, rfl⟩ := (show ∃ t, u = Value.int i t from rx)
  obtain ⟨t', rfl⟩ := (show ∃ t', v = Value.int j t' from ry)
  exact PyProof.Rows.isub_int ⟨.int (i - j), H, I.tok _, ⟨_, rfl⟩, q⟩

/-- what is between an instance and its method: the tree of a method call -/
theorem methcall_of {pl : Sem Bool} {m : Str} {apos : Pos} {args : List Expr} {pins : List (Addr × Obj)} {s : Shared} {σ : St} {H : Hp} {Q : Value → Shared → Prop} {te : TE} (he : PE X e te) (I : Inv X pins σ H s)
    (h : te σ H fun x H1 => ∃ a C dx fs g, x = .ref a ∧ H1 a = some (.ins C dx fs) ∧ Cls X.K C ∧ Meth X.K C m g ∧ fs.lookup m = none ∧
      ∀ s1, Inv X pins σ H1 s1 → wpAny (model X.prog X.w) X.A (callWith pos (.ref g) [.ref a] (backTo pos (starEach args X.env)) (backToKw pos (keywordEach [] X.env))) Q X.xe s1)
    (ht : eval (.Call (.Attribute e m apos) args [] pos) X.env = (do
      let ov ← eval e X.env
      standAt apos.atName
      let (f, first) ← holding [ov] (getMethod ov m pl)
      callWith pos f first (backTo pos (starEach args X.env)) (backToKw pos (keywordEach [] X.env)))) :
    wpAny (model X.prog X.w) X.A (eval (.Call (.Attribute e m apos) args [] pos) X.env) Q X.xe s := by
  refine PySem.W.methodCall_KW (pl := pl) (thn (he pins s σ H _ I h) fun u s1 ⟨x, H1, I1, rx, a, C, dx, fs, g, ex, ea, c, k, l, q⟩ => ?_) ht
  subst ex
  obtain rfl : u = Value.ref a := rx
  exact getmeth_ok I1 ea c k l (q s1 I1)
end

/-! ### isinstance -/
section
variable {X : Cx} {pins : List (Addr × Obj)} {σ : St} {H : Hp} {s : Shared} {A : Around} {E : Value → Shared → Prop} {Q : Value → Shared → Prop} {c : Value} {b : Bool}
/-- the type of a value, as the fragment's deciders take it; for an instance its class -/
inductive TyOf (K : PySem.W.Frag) (H : Hp) : V → Value → Prop where
  | non : TyOf K H .non (.type "NoneType")
  | bl (x : Bool) : TyOf K H (.bl x) (.type "bool")
  | int (i : Int) : TyOf K H (.int i) (.type "int")
  | str (x : Str) : TyOf K H (.str x) (.type "str")
  | flt (x : UInt64) : TyOf K H (.flt x) (.type "float")
  | lst {a : Addr} {xs : List V} (e : H a = some (.lst xs)) : TyOf K H (.ref a) (.type "list")
  | frz {a : Addr} {o : Obj} {xs : List V} (e : H a = some (.frz o (.lst xs))) : TyOf K H (.ref a) (.type "list")
  | tup {a : Addr} {xs : List V} (e : H a = some (.tup xs)) : TyOf K H (.ref a) (.type "tuple")
  | dK {a : Addr} {kvs : List (Key × V)} (e : H a = some (.dK kvs)) : TyOf K H (.ref a) (.type "dict")
  | dT {a : Addr} {kvs : List (List Key × V)} (e : H a = some (.dT kvs)) : TyOf K H (.ref a) (.type "dict")
  | ins {a C dx : Addr} {fs : List (Str × V)} (e : H a = some (.ins C dx fs)) (cl : Cls K C) (ha : PySem.W.findIn K (.ref C) "__class__" = some (some (.builtin "object.__class__")))
      (hn : PySem.W.specialIn K (.builtin "object.__class__") "__get__" = some (some (.builtin "getset_descriptor.__get__"))) (htk : PySem.W.takesIn K (.builtin "object.__class__") = some true)
      (hm : PySem.W.mroIn K C (.type "object") = some true) : TyOf K H (.ref a) (.ref C)
/-- isinstance(x, c) for one class c, a built-in or an own one: kitOne's answer -/
theorem isinst_ok {x : V} {u t : Value} (I : Inv X pins σ H s) (rx : RelV x u) (ty : TyOf X.K H x t) (e : PySem.W.kitOne X.K t c = some b) (h : ∀ tk, Q (.bool b) { s with toks := tk }) :
    wpAny (model X.prog X.w) A (call (.builtin "isinstance") [u, c]) Q E s := by
  cases ty with
  | non => cases (show u = Value.none from rx); exact PySem.W.kia_one PySem.W.kitx_none I.kIn True.intro e (fun z => nomatch z) h
  | bl y => cases (show u = Value.bool y from rx); exact PySem.W.kia_one PySem.W.kitx_bool I.kIn True.intro e (fun z => nomatch z) h
  | int i => obtain ⟨t, q⟩ := (show ∃ t, u = Value.int i t from rx); cases q; exact PySem.W.kia_one PySem.W.kitx_int I.kIn True.intro e (fun z => nomatch z) h
  | str y => obtain ⟨t, q⟩ := (show ∃ t, u = Value.str y t from rx); cases q; exact PySem.W.kia_one PySem.W.kitx_str I.kIn True.intro e (fun z => nomatch z) h
  | flt y => obtain ⟨t, q⟩ := (show ∃ t, u = Value.float y t from rx); cases q; exact PySem.W.kia_one PySem.W.kitx_float I.kIn True.intro e (fun z => nomatch z) h
  | @lst a xs ea =>
    cases (show u = Value.ref a from rx)
    obtain ⟨_, _, n, _, h1⟩ := (show ObjOk X.prog X.w H s.heap a (.lst xs) from I.hok a _ ea)
    exact PySem.W.kia_one PySem.W.kitx_list I.kIn ⟨_, h1, rfl⟩ e (fun z => nomatch z) h
  | @frz a ob xs ea =>
    cases (show u = Value.ref a from rx)
    obtain ⟨_, _, _, n, _, h1⟩ := (show ObjOk X.prog X.w H s.heap a (.frz ob (.lst xs)) from I.hok a _ ea)
    exact PySem.W.kia_one PySem.W.kitx_list I.kIn ⟨_, h1, rfl⟩ e (fun z => nomatch z) h
  | @tup a xs ea =>
    cases (show u = Value.ref a from rx)
    obtain ⟨_, _, _, p⟩ := (show ObjOk X.prog X.w H s.heap a (.tup xs) from I.hok a _ ea)
    obtain ⟨o, h1, h2, _⟩ := p
    exact PySem.W.kia_one PySem.W.kitx_tuple I.kIn ⟨o, h1, h2⟩ e (fun z => nomatch z) h
  | @dK a kvs ea =>
    cases (show u = Value.ref a from rx)
    obtain ⟨_, _, vs, _, p⟩ := (show ObjOk X.prog X.w H s.heap a (.dK kvs) from I.hok a _ ea)
    obtain ⟨o, es, ep, h1, h2, _⟩ := p
    exact PySem.W.kia_one PySem.W.kitx_dict I.kIn ⟨o, h1, h2.1⟩ e (fun z => nomatch z) h
  | @dT a kvs ea =>
    cases (show u = Value.ref a from rx)
    obtain ⟨_, _, xs, _, o, es, ep, h1, h2, _⟩ := (show ObjOk X.prog X.w H s.heap a (.dT kvs) from I.hok a _ ea)
    exact PySem.W.kia_one PySem.W.kitx_dict I.kIn ⟨o, h1, h2.1⟩ e (fun z => nomatch z) h
  | @ins a C dx fs ea cl ha hn htk hm =>
    cases (show u = Value.ref a from rx)
    obtain ⟨mA, O, _⟩ := ins_get I.hok ea
    obtain ⟨od, J, _⟩ := O.look
    exact PySem.W.kia_one (PySem.W.kitx_own (cl.get _) cl.hd ha hn htk hm) I.kIn J e (fun z => nomatch z) h
end
end L2

namespace L2
open PySem PySem.Spec PyProof.Rows

/-! ### room -/
structure Room (k : Nat) (A : Around) : Prop where
  hd : A.handled = none
  dp : A.depth + 3 * k + 5 < recursionLimit
  un : A.units + 16 * k + 200 < cLine
theorem Room.mono {j k : Nat} {A : Around} (r : Room k A) (h : j ≤ k) : Room j A := ⟨r.hd, by have := r.dp; omega, by have := r.un; omega⟩
theorem Room.deeper {k : Nat} {A : Around} (r : Room (k + 1) A) (env : Env) : Room k (A.deeper env) :=
  ⟨r.hd, by have := r.dp; show A.depth + 1 + 3 * k + 5 < _; omega, by have := r.un; show A.units + 3 + 16 * k + 200 < _; omega⟩
theorem Room.in1 {k : Nat} {A : Around} (r : Room (k + 1) A) : Room k A.in1 :=
  ⟨r.hd, by have := r.dp; show A.depth + 3 * k + 5 < _; omega, by have := r.un; show A.units + 1 + 16 * k + 200 < _; omega⟩
theorem make_depth {A : Around} {C : Addr} {us : List Value} {kw : List (Str × Value)} : (A.under (.builtin "type.__call__" ⟨.ref C :: us, kw⟩)).depth = A.depth + 1 := by
  first | rfl | simp [Around.under, Code.weight, Code.isCreation, Code.isGuard, Code.isCaller, Code.frames, Code.isFrame, guardIds]
theorem make_units {A : Around} {C : Addr} {us : List Value} {kw : List (Str × Value)} : (A.under (.builtin "type.__call__" ⟨.ref C :: us, kw⟩)).units = A.units + 1 := by
  first | rfl | simp [Around.under, Code.cUnits, Code.frames, Code.isFrame]
theorem Room.make {k : Nat} {A : Around} (r : Room (k + 1) A) (C : Addr) (us : List Value) (kw : List (Str × Value)) : Room k (A.under (.builtin "type.__call__" ⟨.ref C :: us, kw⟩)) :=
  ⟨r.hd, by have := r.dp; rw [make_depth]; omega, by have := r.un; rw [make_units]; omega⟩
theorem Room.depth {k : Nat} {A : Around} (r : Room k A) : A.depth < recursionLimit := by have := r.dp; omega
theorem Room.units {k : Nat} {A : Around} (r : Room k A) : A.units + 64 < cLine := by have := r.un; omega
theorem Room.units0 {k : Nat} {A : Around} (r : Room k A) : A.units < cLine := by have := r.un; omega

/-! ### argument lists and displays -/
def tNil : TA := fun _ H Q => Q [] H
def tCons (ta : TE) (tr : TA) : TA := fun σ H Q => ta σ H fun x H1 => tr σ H1 fun xs H2 => Q (x :: xs) H2
section
variable {X : Cx} {e : Expr} {es : List Expr} {te : TE} {t : TA} {pos : Pos}
theorem pa_nil : PA X [] tNil := fun _ _ _ _ H Q I h => Calls.spliced_nil ⟨[], H, I, .nil, h⟩
theorem pa_cons (ha : PE X e te) (hr : PA X es t) (hs : starEach (e :: es) X.env = (false, eval e X.env) :: starEach es X.env := by rfl) : PA X (e :: es) (tCons te t) := by
  intro pos pins s σ H Q I h
  rw [hs]
  show wpAny _ _ (spliced ((false, eval e X.env) :: backTo pos (starEach es X.env))) _ _ s
  refine Calls.spliced_cons (thn (ha pins s σ H _ I h) fun u s1 ⟨x, H1, I1, r1, q1⟩ => ?_)
  exact thn (hr pos pins s1 σ H1 _ I1 q1) fun us s2 ⟨xs, H2, I2, r2, q2⟩ => ⟨x :: xs, H2, I2, .cons r1 r2, q2⟩

/-- a tuple, a list of written items -/
def tTup (t : TA) : TE := fun σ H Q => t σ H fun xs H1 => xs.length ≤ sizeLine ∧ ∀ p, H1 p = none → Q (.ref p) (upd H1 p (.tup xs))
def tLst (t : TA) : TE := fun σ H Q => t σ H fun xs H1 => xs.length ≤ sizeLine ∧ ∀ p, H1 p = none → Q (.ref p) (upd H1 p (.lst xs))
theorem pe_tup {x1} (h : PA X es t) : PE X (.Tuple es x1 pos) (tTup t) := by
  intro pins s σ H Q I hq
  refine wpAny_Tuple_spliced (thn (h pos pins s σ H _ I hq) fun us s1 ⟨xs, H1, I1, r, z, q⟩ => ⟨by rw [← r.length]; exact z, ?_⟩)
  have hf : H1 s1.heap.objs.size = none := I1.hok.fresh (Nat.le_refl _)
  refine ⟨.ref s1.heap.objs.size, upd H1 s1.heap.objs.size (.tup xs), I1.laid (t' := s1.toks) (fun b u e => Heap.get?_push_of_some _ e) (Nat.le_refl _) ?_, rfl, q _ hf⟩
  exact ⟨z, us, r, ⟨_, Heap.get?_push_size _ rfl, rfl, _, rfl⟩⟩
theorem pe_lst (h : PA X es t) : PE X (.List es pos) (tLst t) := by
  intro pins s σ H Q I hq
  refine wpAny_List_spliced (thn (h pos pins s σ H _ I hq) fun us s1 ⟨xs, H1, I1, r, z, q⟩ => ⟨by rw [← r.length]; exact z, ?_⟩)
  have hf : H1 s1.heap.objs.size = none := I1.hok.fresh (Nat.le_refl _)
  refine ⟨.ref s1.heap.objs.size, upd H1 s1.heap.objs.size (.lst xs), I1.laid (t' := s1.toks) (fun b u e => Heap.get?_push_of_some _ e) (Nat.le_refl _) ?_, rfl, q _ hf⟩
  exact ⟨z, us, 0, r, Heap.get?_push_size _ rfl⟩
end

/-! ### what a def promises -/
/-- a def's promise: the bound arguments in the parameters' order, the heap, the wanted end, the wanted exception -/
abbrev Sp := List V → Hp → VK → XK → Prop
/-- how an exception lies behind a call (file 08 gives it): the callers' frames, abstract heap and state ahead of the call, the wish, the exception, the state -/
abbrev CXT := List Env → Hp → Shared → XK → Value → Shared → Prop

/-- the state at a call -/
structure Env0 (P : Program) (w : World) (K : PySem.W.Frag) (mg : Str → Option Value) (base : Heap) (A : Around) (outer : List Env) (s : Shared) (H : Hp) : Prop where
  frames : A.frames = some outer
  mod : Mod K mg base
  bs : ∀ b o, base.get? b = some o → s.heap.get? b = some o ∧ H b = none
  bsz : base.objs.size ≤ s.heap.objs.size
  funs : s.heap.FunFrames base outer
  frf : ∀ b ∈ frs outer, H b = none
  hok : HOk P w H s.heap
  bare : AllBare s.gens
/-- a call's end -/
def CE (outer : List Env) (P : Program) (w : World) (H : Hp) (s : Shared) (Q : VK) (u : Value) (s' : Shared) : Prop :=
  ∃ v H', s'.os = s.os ∧ AllBare s'.gens ∧ Un (frs outer) [] H H' s.heap s'.heap ∧ HOk P w H' s'.heap ∧ RelV v u ∧ Q v H'
def CR (CX : CXT) (outer : List Env) (P : Program) (w : World) (H : Hp) (s : Shared) (Q : VK) (E : XK) (r : Result) (s' : Shared) : Prop :=
  match r with
  | .ok (.ret u) => CE outer P w H s Q u s'
  | .ok _ => False
  | .error e => CX outer H s E e s'
structure FnOk (P : Program) (w : World) (K : PySem.W.Frag) (mg : Str → Option Value) (base : Heap) (CX : CXT) (k : Nat) (f : Addr) (fd : FuncData) (ps : List Str) (sp : Sp) : Prop where
  len : ∀ vs H Q E, sp vs H Q E → vs.length = ps.length
  run : ∀ (A : Around) (outer : List Env) (s : Shared) (H : Hp) (args : Args) (us : List Value) (vs : List V) (Q : VK) (E : XK), Room k A → Env0 P w K mg base A outer s H → BindsTo s fd args (ps.zip us) → Vals vs us → sp vs H Q E →
    codeAny (model P w) A (.call (.ref f) args) (CR CX outer P w H s Q E) s
theorem FnOk.mono {P : Program} {w : World} {K : PySem.W.Frag} {mg : Str → Option Value} {base : Heap} {CX : CXT} {j k : Nat} {f : Addr} {fd : FuncData} {ps : List Str} {sp : Sp} (F : FnOk P w K mg base CX j f fd ps sp) (h : j ≤ k) :
    FnOk P w K mg base CX k f fd ps sp := ⟨F.len, fun A outer s H args us vs Q E hr => F.run A outer s H args us vs Q E (hr.mono h)⟩
/-- a weaker promise -/
theorem FnOk.imp {P : Program} {w : World} {K : PySem.W.Frag} {mg : Str → Option Value} {base : Heap} {CX : CXT} {k : Nat} {f : Addr} {fd : FuncData} {ps : List Str} {sp sp' : Sp} (F : FnOk P w K mg base CX k f fd ps sp)
    (h : ∀ vs H Q E, sp' vs H Q E → sp vs H Q E) : FnOk P w K mg base CX k f fd ps sp' :=
  ⟨fun vs H Q E q => F.len vs H Q E (h _ _ _ _ q), fun A outer s H args us vs Q E hr he hb hv hs => F.run A outer s H args us vs Q E hr he hb hv (h _ _ _ _ hs)⟩

theorem Env0.make {P : Program} {w : World} {K : PySem.W.Frag} {mg : Str → Option Value} {base : Heap} {A : Around} {outer : List Env} {s : Shared} {H : Hp} (e : Env0 P w K mg base A outer s H) (C : Addr) (us : List Value) (kw : List (Str × Value)) :
    Env0 P w K mg base (A.under (.builtin "type.__call__" ⟨.ref C :: us, kw⟩)) outer s H := ⟨by first | exact e.frames | (simpa [Around.under, Code.envs, Code.isFrame, pushEnvs] using e.frames), e.mod, e.bs, e.bsz, e.funs, e.frf, e.hok, e.bare⟩
theorem Env0.in1 {P : Program} {w : World} {K : PySem.W.Frag} {mg : Str → Option Value} {base : Heap} {A : Around} {outer : List Env} {s : Shared} {H : Hp} (e : Env0 P w K mg base A outer s H) :
    Env0 P w K mg base A.in1 outer s H := ⟨e.frames, e.mod, e.bs, e.bsz, e.funs, e.frf, e.hok, e.bare⟩

section
variable {X : Cx} {pins : List (Addr × Obj)} {σ : St} {H : Hp} {s s' : Shared}
/-- from a body: what a callee wants -/
theorem Inv.env0 (I : Inv X pins σ H s) : Env0 X.prog X.w X.K X.mg X.base X.A X.stack s H :=
  ⟨I.ok.frames, I.ok.mod, I.bs, Nat.le_trans I.ok.bsz I.sz, I.stack, I.stkFree, I.hok, I.bare⟩
/-- behind a call -/
theorem Inv.after {Q : VK} {u : Value} (I : Inv X pins σ H s) (h : CE X.stack X.prog X.w H s Q u s') : EP X pins σ Q u s' := by
  obtain ⟨v, H', os, bare, un, hok, r, q⟩ := h
  obtain ⟨hh, g, d, t, os'⟩ := s'
  obtain rfl : os' = s.os := os
  exact ⟨v, H', I.call (h' := hh) (g' := g) (d' := d) (t' := t) (ch := []) un hok bare (fun b z => absurd z (by simp)), r, q⟩
end

/-! ### calls -/
/-- f(..): the written arguments, then the defaults dvs; E: what is wanted of an exception -/
def tCall (sp : Sp) (dvs : List V) (E : XK) (t : TA) : TE := fun σ H Q => t σ H fun vs H1 => sp (vs ++ dvs) H1 Q E
/-- o.m(..) of an instance of the class at C -/
def tMeth (C : Addr) (m : Str) (sp : Sp) (dvs : List V) (E : XK) (ta : TE) (t : TA) : TE := fun σ H Q => ta σ H fun x H1 => ∃ a dx fs, x = .ref a ∧ H1 a = some (.ins C dx fs) ∧ fs.lookup m = none ∧
  t σ H1 fun vs H2 => sp (x :: (vs ++ dvs)) H2 Q E
/-- C(..): a new instance and its dict, then __init__ -/
def tMake (C : Addr) (sp : Sp) (dvs : List V) (E : XK) (t : TA) : TE := fun σ H Q => t σ H fun vs H1 => ∀ x dx, H1 x = none → H1 dx = none → dx ≠ x →
  sp (.ref x :: (vs ++ dvs)) (upd (upd H1 dx (.own x)) x (.ins C dx [])) (fun v H2 => v = .non ∧ Q (.ref x) H2) E

/-- how the parameters are bound: us the positional arguments, kw the keywords' values by name, ds the defaults that fill up -/
def Binds (K : PySem.W.Frag) (fd : FuncData) (ps : List Str) (ds : List Value) : Prop :=
  ∀ (s : Shared) (us : List Value), K.In s.heap → (us ++ ds).length = ps.length → BindsTo s fd ⟨us, []⟩ (ps.zip (us ++ ds))
/-- every parameter is given -/
theorem Binds.all {K : PySem.W.Frag} {fd : FuncData} {ps : List Str} (h : ∀ us : List Value, us.length = ps.length → bindArgs fd ⟨us, []⟩ = pure (ps.zip us)) : Binds K fd ps [] := fun s us _ hl => by
  rw [List.append_nil] at hl ⊢
  exact .of_eq (h us hl)

/-- an exception of a callee reaches what this body wants of exceptions -/
def Passes (CX : CXT) (X : Cx) (E : XK) : Prop := ∀ (pins : List (Addr × Obj)) (σ : St) (H : Hp) (s : Shared) (e : Value) (s' : Shared), Inv X pins σ H s → CX X.stack H s E e s' → X.xe e s'

section
variable {X : Cx} {CX : CXT} {k : Nat} {f C : Addr} {fd : FuncData} {ps : List Str} {sp : Sp} {dvs : List V} {ds : List Value} {E : XK} {x m : Str} {p pos apos : Pos} {e o : Expr} {es : List Expr} {ta : TE} {t : TA}

/-- the callee runs -/
theorem run_fn {pins : List (Addr × Obj)} {σ : St} {H : Hp} {s : Shared} {Q : VK} {us : List Value} {vs : List V} (F : FnOk X.prog X.w X.K X.mg X.base CX k f fd ps sp) (hr : Room k X.A) (hb : Binds X.K fd ps ds) (hd : Vals dvs ds) (hx : Passes CX X E)
    (I : Inv X pins σ H s) (r : Vals vs us) (h : sp (vs ++ dvs) H Q E) : wpAny (model X.prog X.w) X.A (call (.ref f) us) (EP X pins σ Q) X.xe s := by
  have r2 : Vals (vs ++ dvs) (us ++ ds) := r.append hd
  have hl : (us ++ ds).length = ps.length := by rw [← r2.length]; exact F.len _ _ _ _ h
  refine wpAny_call (codeAny_mono (F.run X.A X.stack s H ⟨us, []⟩ (us ++ ds) (vs ++ dvs) Q E hr I.env0 (hb s us I.kIn hl) r2 h) fun r s' hq => ?_)
  cases r with
  | error e => exact hx pins σ H s e s' I hq
  | ok fl =>
    cases fl with
    | ret u => exact I.after hq
    | next => exact False.elim hq
    | brk => exact False.elim hq
    | cont => exact False.elim hq

theorem pe_call (F : FnOk X.prog X.w X.K X.mg X.base CX k f fd ps sp) (hr : Room k X.A) (hg : Gl X x) (hm : X.mg x = some (.ref f)) (hk : PySem.W.keepIn X.K (.ref f) = true) (hb : Binds X.K fd ps ds) (hd : Vals dvs ds) (hx : Passes CX X E)
    (ha : PA X (e :: es) t) (hdb : (x == ("__debug__" : Str)) = false := by decide) (he : starEach (e :: es) X.env = (false, eval e X.env) :: starEach es X.env := by rfl) (hpl : (backTo pos (starEach es X.env)).any (·.1) = false := by rfl) :
    PE X (.Call (.Name x p) (e :: es) [] pos) (tCall sp dvs E t) := by
  intro pins s σ H Q I h
  refine wpAny_Call_Name_kw (ld_glob I hg hm ?_ hdb)
  refine PySem.W.callWith_K (h₀ := X.base) I.ok.mod.kin hk (thn (ha pos pins s σ H _ I h) fun us s1 ⟨vs, H1, I1, r, q⟩ => ⟨I1.kIn, ?_⟩) he hpl
  exact run_fn F hr hb hd hx I1 r q
theorem pe_call0 (F : FnOk X.prog X.w X.K X.mg X.base CX k f fd ps sp) (hr : Room k X.A) (hg : Gl X x) (hm : X.mg x = some (.ref f)) (hk : PySem.W.keepIn X.K (.ref f) = true) (hb : Binds X.K fd ps ds) (hd : Vals dvs ds) (hx : Passes CX X E)
    (hdb : (x == ("__debug__" : Str)) = false := by decide) : PE X (.Call (.Name x p) [] [] pos) (tCall sp dvs E tNil) := by
  intro pins s σ H Q I h
  refine wpAny_Call_Name_kw (ld_glob I hg hm ?_ hdb)
  exact PySem.W.callWith_K0 I.kIn hk (run_fn (us := []) F hr hb hd hx I .nil h)

/-- o.m(e, ..) -/
theorem pe_meth {pl : Sem Bool} (he : PE X o ta) (c : Cls X.K C) (hm : Meth X.K C m f) (F : FnOk X.prog X.w X.K X.mg X.base CX k f fd ps sp) (hr : Room k X.A) (hb : Binds X.K fd ps ds) (hd : Vals dvs ds) (hx : Passes CX X E) (ha : PA X (e :: es) t)
    (hst : starEach (e :: es) X.env = (false, eval e X.env) :: starEach es X.env := by rfl) (hpl : (backTo pos (starEach es X.env)).any (·.1) = false := by rfl)
    (ht : eval (.Call (.Attribute o m apos) (e :: es) [] pos) X.env = (do
      let ov ← eval o X.env
      standAt apos.atName
      let (f, first) ← holding [ov] (getMethod ov m pl)
      callWith pos f first (backTo pos (starEach (e :: es) X.env)) (backToKw pos (keywordEach [] X.env))) := by rfl) :
    PE X (.Call (.Attribute o m apos) (e :: es) [] pos) (tMeth C m sp dvs E ta t) := by
  intro pins s σ H Q I h
  refine PySem.W.methodCall_KW (pl := pl) (thn (he pins s σ H _ I h) fun u s1 ⟨x, H1, I1, rx, a, dx, fs, ex, ea, l, q⟩ => ?_) ht
  subst ex
  obtain rfl : u = Value.ref a := rx
  refine getmeth_ok I1 ea c hm l ?_
  refine PySem.W.callWith_K (first := [.ref a]) (h₀ := X.base) I.ok.mod.kin hm.kp (thn (ha pos pins s1 σ H1 _ I1 q) fun us s2 ⟨vs, H2, I2, r, q2⟩ => ⟨I2.kIn, ?_⟩) hst hpl
  exact run_fn (us := .ref a :: us) (vs := .ref a :: vs) F hr hb hd hx I2 (.cons rfl r) q2
/-- o.m() -/
theorem pe_meth0 {pl : Sem Bool} (he : PE X o ta) (c : Cls X.K C) (hm : Meth X.K C m f) (F : FnOk X.prog X.w X.K X.mg X.base CX k f fd ps sp) (hr : Room k X.A) (hb : Binds X.K fd ps ds) (hd : Vals dvs ds) (hx : Passes CX X E)
    (ht : eval (.Call (.Attribute o m apos) [] [] pos) X.env = (do
      let ov ← eval o X.env
      standAt apos.atName
      let (f, first) ← holding [ov] (getMethod ov m pl)
      callWith pos f first (backTo pos (starEach [] X.env)) (backToKw pos (keywordEach [] X.env))) := by rfl) :
    PE X (.Call (.Attribute o m apos) [] [] pos) (tMeth C m sp dvs E ta tNil) := by
  intro pins s σ H Q I h
  refine PySem.W.methodCall_KW (pl := pl) (thn (he pins s σ H _ I h) fun u s1 ⟨x, H1, I1, rx, a, dx, fs, ex, ea, l, q⟩ => ?_) ht
  subst ex
  obtain rfl : u = Value.ref a := rx
  refine getmeth_ok I1 ea c hm l ?_
  exact PySem.W.callWith_K0 (first := [.ref a]) I1.kIn hm.kp (run_fn (us := [.ref a]) (vs := [.ref a]) F hr hb hd hx I1 (.cons rfl .nil) q)

/-- what a class must have to be made -/
structure Mk (K : PySem.W.Frag) (C f : Addr) : Prop where
  makes : PySem.W.makesIn K C = true
  init : PySem.W.findIn K (.ref C) "__init__" = some (some (.ref f))
  fn : PySem.W.isFn K (.ref f) = true
  kp : PySem.W.keepIn K (.ref C) = true

theorem run_make {pins : List (Addr × Obj)} {σ : St} {H : Hp} {s : Shared} {Q : VK} {us : List Value} {vs : List V} (M : Mk X.K C f) (F : FnOk X.prog X.w X.K X.mg X.base CX k f fd ps sp) (hr : Room (k + 1) X.A) (hb : Binds X.K fd ps ds) (hd : Vals dvs ds)
    (hx : Passes CX X E) (I : Inv X pins σ H s) (r : Vals vs us)
    (h : ∀ x dx, H x = none → H dx = none → dx ≠ x → sp (.ref x :: (vs ++ dvs)) (upd (upd H dx (.own x)) x (.ins C dx [])) (fun v H2 => v = .non ∧ Q (.ref x) H2) E) :
    wpAny (model X.prog X.w) X.A (call (.ref C) us) (EP X pins σ Q) X.xe s := by
  have hq := h (s.heap.objs.size + 1) s.heap.objs.size (I.hok.fresh (Nat.le_succ _)) (I.hok.fresh (Nat.le_refl _)) (Nat.ne_of_lt (Nat.lt_succ_self _))
  have I2 := Inv.made (C := C) I
  have r2 : Vals (V.ref (s.heap.objs.size + 1) :: (vs ++ dvs)) (Value.ref (s.heap.objs.size + 1) :: (us ++ ds)) := .cons rfl (r.append hd)
  have hl : (Value.ref (s.heap.objs.size + 1) :: us ++ ds).length = ps.length := by
    have e := r2.length
    rw [F.len _ _ _ _ hq] at e
    exact e.symm
  refine wpAny_call (make_map (f := f) I.kIn M.makes M.init (beq_iff_eq.mp M.fn) (codeAny_mono (F.run _ X.stack _ _ ⟨Value.ref (s.heap.objs.size + 1) :: us, []⟩ (Value.ref (s.heap.objs.size + 1) :: (us ++ ds)) _ _ E (hr.make C us [])
    (I2.env0.make C us []) (hb _ (Value.ref (s.heap.objs.size + 1) :: us) I2.kIn hl) r2 hq) fun r s' hq' => ?_))
  cases r with
  | error e => exact hx pins σ _ _ e s' I2 hq'
  | ok fl =>
    cases fl with
    | ret u =>
      obtain ⟨v, H', I3, rv, ev, q3⟩ := I2.after hq'
      subst ev
      exact ⟨rv, ⟨V.ref (s.heap.objs.size + 1), H', I3, rfl, q3⟩⟩
    | next => exact False.elim hq'
    | brk => exact False.elim hq'
    | cont => exact False.elim hq'
theorem pe_make (M : Mk X.K C f) (F : FnOk X.prog X.w X.K X.mg X.base CX k f fd ps sp) (hr : Room (k + 1) X.A) (hg : Gl X x) (hm : X.mg x = some (.ref C)) (hb : Binds X.K fd ps ds) (hd : Vals dvs ds) (hx : Passes CX X E)
    (ha : PA X (e :: es) t) (hdb : (x == ("__debug__" : Str)) = false := by decide) (he : starEach (e :: es) X.env = (false, eval e X.env) :: starEach es X.env := by rfl) (hpl : (backTo pos (starEach es X.env)).any (·.1) = false := by rfl) :
    PE X (.Call (.Name x p) (e :: es) [] pos) (tMake C sp dvs E t) := by
  intro pins s σ H Q I h
  refine wpAny_Call_Name_kw (ld_glob I hg hm ?_ hdb)
  refine PySem.W.callWith_K (h₀ := X.base) I.ok.mod.kin M.kp (thn (ha pos pins s σ H _ I h) fun us s1 ⟨vs, H1, I1, r, q⟩ => ⟨I1.kIn, ?_⟩) he hpl
  exact run_make M F hr hb hd hx I1 r q
theorem pe_make0 (M : Mk X.K C f) (F : FnOk X.prog X.w X.K X.mg X.base CX k f fd ps sp) (hr : Room (k + 1) X.A) (hg : Gl X x) (hm : X.mg x = some (.ref C)) (hb : Binds X.K fd ps ds) (hd : Vals dvs ds) (hx : Passes CX X E)
    (hdb : (x == ("__debug__" : Str)) = false := by decide) : PE X (.Call (.Name x p) [] [] pos) (tMake C sp dvs E tNil) := by
  intro pins s σ H Q I h
  refine wpAny_Call_Name_kw (ld_glob I hg hm ?_ hdb)
  exact PySem.W.callWith_K0 I.kIn M.kp (run_make (us := []) M F hr hb hd hx I .nil h)
end

/-! ### keywords -/
/-- the values of the keywords, from the left -/
def PK (X : Cx) (kws : List Keyword) (t : TA) : Prop :=
  ∀ (pos : Pos) (pins : List (Addr × Obj)) (s : Shared) (σ : St) (H : Hp) (Q : List V → Hp → Prop), Inv X pins σ H s → t σ H Q → wpAny (model X.prog X.w) X.A (evalAll ((backToKw pos (keywordEach kws X.env)).map (·.2))) (AP X pins σ Q) X.xe s
section
variable {X : Cx} {CX : CXT} {k : Nat} {f C : Addr} {fd : FuncData} {ps ks : List Str} {sp : Sp} {E : XK} {x m : Str} {p pos apos kpos : Pos} {e o : Expr} {es : List Expr} {kws : List Keyword} {te ta : TE} {t tk : TA} {nm : Option Str}
theorem pk_nil : PK X [] tNil := fun _ _ _ _ H Q I h => wpAny_evalAll_nil ⟨[], H, I, .nil, h⟩
theorem pk_cons (ha : PE X e te) (hr : PK X kws t) : PK X (⟨nm, e, kpos⟩ :: kws) (tCons te t) := by
  intro pos pins s σ H Q I h
  show wpAny _ _ (evalAll ((do let v ← eval e X.env; standAt pos; pure v) :: (backToKw pos (keywordEach kws X.env)).map (·.2))) _ _ s
  refine wpAny_evalAll_cons (wpAny_bind (thn (ha pins s σ H _ I h) fun u s1 ⟨x, H1, I1, r1, q1⟩ => wpAny_bind (wpAny_standAt (wpAny_pure ?_))))
  exact thn (hr pos pins s1 σ H1 _ I1 q1) fun us s2 ⟨xs, H2, I2, r2, q2⟩ => ⟨x :: xs, H2, I2, .cons r1 r2, q2⟩

/-- how a call with keywords binds: g puts the positional values us and the keywords' values ws (names ks) in the parameters' order, defaults among them -/
structure KBinds (K : PySem.W.Frag) (fd : FuncData) (ps ks : List Str) (g : List Value → List Value → List Value) (gV : List V → List V → List V) : Prop where
  to : ∀ (s : Shared) (us ws : List Value), K.In s.heap → (g us ws).length = ps.length → BindsTo s fd ⟨us, ks.zip ws⟩ (ps.zip (g us ws))
  rel : ∀ {vs : List V} {us : List Value} {zs : List V} {ws : List Value}, Vals vs us → Vals zs ws → Vals (gV vs zs) (g us ws)
def tCallK (sp : Sp) (gV : List V → List V → List V) (E : XK) (t tk : TA) : TE := fun σ H Q => t σ H fun vs H1 => tk σ H1 fun zs H2 => sp (gV vs zs) H2 Q E
variable {g : List Value → List Value → List Value} {gV : List V → List V → List V}
theorem run_fnk {pins : List (Addr × Obj)} {σ : St} {H : Hp} {s : Shared} {Q : VK} {us ws : List Value} {vs zs : List V} (F : FnOk X.prog X.w X.K X.mg X.base CX k f fd ps sp) (hr : Room k X.A) (hb : KBinds X.K fd ps ks g gV) (hx : Passes CX X E)
    (I : Inv X pins σ H s) (r : Vals vs us) (rz : Vals zs ws) (h : sp (gV vs zs) H Q E) : wpAny (model X.prog X.w) X.A (call (.ref f) us (ks.zip ws)) (EP X pins σ Q) X.xe s := by
  have r2 := hb.rel r rz
  have hl : (g us ws).length = ps.length := by rw [← r2.length]; exact F.len _ _ _ _ h
  refine wpAny_call (codeAny_mono (F.run X.A X.stack s H ⟨us, ks.zip ws⟩ (g us ws) (gV vs zs) Q E hr I.env0 (hb.to s us ws I.kIn hl) r2 h) fun r s' hq => ?_)
  cases r with
  | error e => exact hx pins σ H s e s' I hq
  | ok fl =>
    cases fl with
    | ret u => exact I.after hq
    | next => exact False.elim hq
    | brk => exact False.elim hq
    | cont => exact False.elim hq
/-- f(e, .., k = v, ..) -/
theorem pe_callK (F : FnOk X.prog X.w X.K X.mg X.base CX k f fd ps sp) (hr : Room k X.A) (hg : Gl X x) (hm : X.mg x = some (.ref f)) (hk : PySem.W.keepIn X.K (.ref f) = true) (hb : KBinds X.K fd ps ks g gV) (hx : Passes CX X E)
    (ha : PA X (e :: es) t) (hkw : PK X kws tk) (hall : (backToKw pos (keywordEach kws X.env)).all (·.1.isSome) = true := by rfl) (hks : (backToKw pos (keywordEach kws X.env)).filterMap (·.1) = ks := by rfl)
    (hdb : (x == ("__debug__" : Str)) = false := by decide) (he : starEach (e :: es) X.env = (false, eval e X.env) :: starEach es X.env := by rfl)
    (hpl : ((backTo pos (starEach (e :: es) X.env)).any (·.1) || (backToKw pos (keywordEach kws X.env)).any (·.1.isNone)) = false := by rfl) :
    PE X (.Call (.Name x p) (e :: es) kws pos) (tCallK sp gV E t tk) := by
  intro pins s σ H Q I h
  refine wpAny_Call_Name_kw (ld_glob I hg hm ?_ hdb)
  refine PySem.W.callWith_KW (h₀ := X.base) I.ok.mod.kin hk hall (thn (ha pos pins s σ H _ I h) fun us s1 ⟨vs, H1, I1, r, q⟩ => ?_) hpl he
  refine thn (hkw pos pins s1 σ H1 _ I1 q) fun ws s2 ⟨zs, H2, I2, rz, q2⟩ => ⟨I2.kIn, ?_⟩
  rw [hks]
  exact run_fnk F hr hb hx I2 r rz q2
end

/-! ### a def's body keeps its promise -/
/-- names: the parameters first -/
structure FnScope (N P : List Str) (sc : Scope) : Prop where
  kind : sc.kind = .function
  co : sc.isCoroutine = false
  gen : sc.isGenerator = false
  nd : N.Nodup
  pre : N.take P.length = P
  par : ∀ x ∈ P, sc.names.lookup x = some .local ∨ sc.names.lookup x = some .cell
  nofree : ∀ y ∈ sc.names, y.2 ≠ .free

theorem bindL_out {kindOf : Str → Option NameKind} {x : Str} : ∀ {binds : List (Str × Value)} {m : Str → Option Value}, (∀ v, (x, v) ∉ binds) → bindL kindOf binds m x = m x
  | [], _, _ => rfl
  | (n, v) :: r, m, h => by
    unfold bindL
    rw [bindL_out fun w hw => h w (List.mem_cons_of_mem _ hw)]
    split
    · have : x ≠ n := by rintro rfl; exact h v List.mem_cons_self
      simp [this]
    · rfl
theorem bindC_out {kindOf : Str → Option NameKind} {x : Str} : ∀ {binds : List (Str × Value)} {m : Str → Option Value}, (∀ v, (x, v) ∉ binds) → bindC kindOf binds m x = m x
  | [], _, _ => rfl
  | (n, v) :: r, m, h => by
    unfold bindC
    rw [bindC_out fun w hw => h w (List.mem_cons_of_mem _ hw)]
    split
    · rfl
    · have : x ≠ n := by rintro rfl; exact h v List.mem_cons_self
      simp [this]
theorem bindL_get {kindOf : Str → Option NameKind} {x : Str} {v : Value} : ∀ {P : List Str} {vs : List Value} {i : Nat} {m : Str → Option Value}, P.Nodup → P[i]? = some x → vs[i]? = some v → kindOf x = some .local →
    bindL kindOf (P.zip vs) m x = some v
  | [], _, _, _, _, h, _, _ => by simp at h
  | _ :: _, [], _, _, _, _, h, _ => by simp at h
  | p :: P, w :: vs, 0, m, nd, h1, h2, hk => by
    simp at h1 h2; subst h1; subst h2
    show bindL kindOf ((p, w) :: P.zip vs) m p = _
    unfold bindL
    rw [bindL_out fun v hv => (List.nodup_cons.mp nd).1 (List.of_mem_zip hv).1, if_pos hk]
    simp
  | p :: P, w :: vs, i + 1, m, nd, h1, h2, hk => by
    show bindL kindOf ((p, w) :: P.zip vs) m x = _
    unfold bindL
    exact bindL_get (i := i) (List.nodup_cons.mp nd).2 (by simpa using h1) (by simpa using h2) hk
theorem bindC_get {kindOf : Str → Option NameKind} {x : Str} {v : Value} : ∀ {P : List Str} {vs : List Value} {i : Nat} {m : Str → Option Value}, P.Nodup → P[i]? = some x → vs[i]? = some v → kindOf x ≠ some .local →
    bindC kindOf (P.zip vs) m x = some v
  | [], _, _, _, _, h, _, _ => by simp at h
  | _ :: _, [], _, _, _, _, h, _ => by simp at h
  | p :: P, w :: vs, 0, m, nd, h1, h2, hk => by
    simp at h1 h2; subst h1; subst h2
    show bindC kindOf ((p, w) :: P.zip vs) m p = _
    unfold bindC
    rw [bindC_out fun v hv => (List.nodup_cons.mp nd).1 (List.of_mem_zip hv).1, if_neg hk]
    simp
  | p :: P, w :: vs, i + 1, m, nd, h1, h2, hk => by
    show bindC kindOf ((p, w) :: P.zip vs) m x = _
    unfold bindC
    exact bindC_get (i := i) (List.nodup_cons.mp nd).2 (by simpa using h1) (by simpa using h2) hk

/-- the names' values at the entry -/
def start (N : List Str) (vs : List V) : St := vs.map some ++ List.replicate (N.length - vs.length) none

/-- the context of a def's body, at its entry; an exception leaves the frame, then lies as CX says -/
def cxOf (CX : CXT) (P : Program) (w : World) (K : PySem.W.Frag) (mg : Str → Option Value) (base : Heap) (N : List Str) (qual : Str) (scope : Scope) (f : Addr) (cd : Value) (A : Around) (outer : List Env) (s : Shared) (H : Hp) (E : XK) : Cx where
  prog := P
  w := w
  K := K
  mg := mg
  base := base
  A := A.deeper (envOfC qual scope s.heap.objs.size f cd)
  N := N
  s₀ := s
  H₀ := H
  env := envOfC qual scope s.heap.objs.size f cd
  outer := outer
  stack := envOfC qual scope s.heap.objs.size f cd :: outer
  ex := []
  calm := true
  fn := fun _ => true
  pn := []
  xe := fun e s' => wpAny (model P w) (A.deeper (envOfC qual scope s.heap.objs.size f cd)) (leaving (envOfC qual scope s.heap.objs.size f cd) e) (fun _ s'' => CX outer H s E e s'') (fun e' s'' => CX outer H s E e' s'') s'

theorem cell_has {sc : Scope} {n : Nat} {x : Str} (h : sc.names.lookup x = some .cell) : ∃ c, (cellsFrom n sc.names []).lookup x = some c := by
  have q := PySem.W.cellsFrom_some sc.names n [] (.inl h)
  exact Option.isSome_iff_exists.mp q

theorem inv_start {CX : CXT} {P : Program} {w : World} {K : PySem.W.Frag} {mg : Str → Option Value} {base : Heap} {N ps : List Str} {qual : Str} {scope : Scope} {f : Addr} {cd : Value} {A : Around} {outer : List Env} {s s1 : Shared} {H : Hp} {E : XK} {us : List Value} {vs : List V}
    (S : FnScope N ps scope) (hd : A.handled = none) (e0 : Env0 P w K mg base A outer s H) (hl : vs.length = ps.length) (r : Vals vs us)
    (x : InCallC s s.heap.objs.size (bindL (envOfC qual scope s.heap.objs.size f cd).kindOf (ps.zip us) fun _ => none) (cellsFrom (s.heap.objs.size + 1) scope.names []) (bindC (envOfC qual scope s.heap.objs.size f cd).kindOf (ps.zip us) fun _ => none) s1) :
    Inv (cxOf CX P w K mg base N qual scope f cd A outer s H E) [] (start N vs) H s1 := by
  have hpl : ps.length ≤ N.length := by have := congrArg List.length S.pre; rw [List.length_take] at this; omega
  obtain ⟨h1, tk, rfl, hk⟩ := x.done
  have noA : ∀ b : Addr, b ∉ (cxOf CX P w K mg base N qual scope f cd A outer s H E).ex := fun b z => absurd (show b ∈ ([] : List Addr) from z) (by simp)
  refine ⟨⟨e0.mod, S.kind, rfl, rfl, Nat.le_refl _, fun y z c h1 h2 => ?_, fun y hy => ?_, fun y c _ h => ?_, fun _ => hd, Around.frames_deeper e0.frames, .inr ⟨rfl, rfl⟩, fun b z => absurd z (noA b), e0.bs, e0.bsz, fun b _ _ => noA b, fun b z => absurd z (noA b), e0.funs, e0.frf⟩,
    rfl, e0.bare, Un.kept hk, ⟨_, x.toInCall.ns, fun i y v h1 h2 h3 => ?_⟩, fun y c h => ⟨_, x.cell y c h⟩, e0.hok.fresh (Nat.le_refl _), fun y c h => ?_, fun p hp => absurd (show p ∈ ([] : List (Addr × Obj)) from hp) (by simp), e0.hok.kept hk, ?_⟩
  · exact name_of_addr x.apart (PySem.mem_of_lookup h1) (PySem.mem_of_lookup h2)
  · have hy : scope.names.lookup y = some .cell ∨ scope.names.lookup y = some .free := hy
    rcases hy with hy | hy
    · exact cell_has hy
    · exact absurd rfl (S.nofree _ (PySem.mem_of_lookup hy))
  · exact Nat.le_of_lt (x.above y c (PySem.mem_of_lookup h))
  · have hi : i < vs.length := by
      unfold start at h2
      by_cases hi : i < vs.length
      · exact hi
      · rw [List.getElem?_append_right (by simpa using hi)] at h2
        rw [List.getElem?_replicate] at h2
        split at h2 <;> cases h2
    have ha : vs[i]? = some v := by
      unfold start at h2
      rw [List.getElem?_append_left (by simpa using hi), List.getElem?_map] at h2
      cases e : vs[i]? with
      | none => rw [e] at h2; cases h2
      | some a => rw [e] at h2; cases h2; rfl
    obtain ⟨u, hu, rv⟩ := r.get ha
    have hp : ps[i]? = some y := by
      rw [← S.pre, List.getElem?_take_of_lt (by omega)]; exact h1
    have ndP : ps.Nodup := by rw [← S.pre]; exact S.nd.sublist (List.take_sublist _ _)
    refine ⟨u, rv, ?_⟩
    rcases S.par y (List.mem_of_getElem? hp) with k | k
    · exact .inl ⟨k, bindL_get ndP hp hu k⟩
    · obtain ⟨c, e⟩ := cell_has (n := s.heap.objs.size + 1) k
      refine .inr ⟨.inl k, c, e, ?_⟩
      have q := x.cell y c e
      rw [bindC_get ndP hp hu (by show scope.names.lookup y ≠ _; rw [k]; decide)] at q
      exact q
  · exact e0.hok.fresh (Nat.le_of_lt (x.above y c (PySem.mem_of_lookup h)))
  · unfold start
    show _ = N.length
    rw [List.length_append, List.length_map, List.length_replicate]
    omega

/-- THE RULE: a def (or a method) of the text, by its body. The body's reading t is chosen for each entry; it is run at the parameters' values -/
theorem fn_of {CX : CXT} {P : Program} {w : World} {K : PySem.W.Frag} {mg : Str → Option Value} {base : Heap} {k : Nat} {f : Addr} {name qual : Str} {params : Arguments} {body : List Stmt} {scope : Scope} {dV kV doc pm cdv ct oc : Value} {an od : Option Addr}
    {osl : Array (Option Value)} {N ps : List Str} {sp : Sp} (lk : K.lookup f = some ⟨oc, od, .func (PySem.W.fnOf name qual params body scope dV kV doc pm an cdv ct), osl⟩) (hcd : PySem.W.codeIn K cdv qual = true) (S : FnScope N ps scope)
    (len : ∀ vs H Q E, sp vs H Q E → vs.length = ps.length)
    (hbody : ∀ (A : Around) (outer : List Env) (s : Shared) (H : Hp) (vs : List V) (Q : VK) (E : XK), Room k (A.deeper (envOfC qual scope s.heap.objs.size f cdv)) → sp vs H Q E →
      ∃ t, PSs (cxOf CX P w K mg base N qual scope f cdv A outer s H E) body t ∧ t { nx := fun _ H' => Q .non H', rt := Q } (start N vs) H) :
    FnOk P w K mg base CX (k + 1) f (PySem.W.fnOf name qual params body scope dV kV doc pm an cdv ct) ps sp := by
  refine ⟨len, fun A outer s H args us vs Q E hr e0 hb r hsp => ?_⟩
  have hl := len _ _ _ _ hsp
  have KX : K.In s.heap := e0.mod.kin.keeps fun b o e => (e0.bs b o e).1
  have lim : s.heap.NoLimit := e0.mod.nolimit.keeps fun b o e => (e0.bs b o e).1
  have hkind : ∀ y ∈ ps.zip us, scope.names.lookup y.1 = some .local ∨ (scope.names.lookup y.1 = some .cell ∧ ((cellsFrom (s.heap.objs.size + 1) scope.names []).lookup y.1).isSome = true) := fun ⟨n, v⟩ hy => by
    rcases S.par n (List.of_mem_zip hy).1 with q | q
    · exact .inl q
    · exact .inr ⟨q, PySem.W.cellsFrom_some _ _ _ (.inl q)⟩
  refine codeAny_call_function hr.depth (KX _ _ lk) rfl S.co S.gen rfl (PySem.W.codeRec_of KX hcd) (hb _ _ _ _ ?_)
  refine wpAny_newFunctionEnv_cells S.kind hkind fun env he s1 x => ?_
  subst he
  refine ⟨lim.keeps x.toInCall.keep, codeAny_func ?_⟩
  obtain ⟨t, ht, hq⟩ := hbody A outer s H vs Q E (hr.deeper _) hsp
  have I : Inv (cxOf CX P w K mg base N qual scope f cdv A outer s H E) [] (start N vs) H s1 := inv_start S hr.hd e0 hl r x
  refine wpAny_mono (ht [] s1 (start N vs) H _ I hq) (fun fl s' hs => ?_) fun e s' hs => hs
  have fin : ∀ {σ' : St} {H' : Hp} {v : V} {u : Value}, Inv (cxOf CX P w K mg base N qual scope f cdv A outer s H E) [] σ' H' s' → RelV v u → Q v H' → CE outer P w H s Q u s' :=
    fun {σ' H' v u} J rv q => ⟨v, H', J.os, J.bare, J.base, J.hok, rv, q⟩
  cases fl with
  | ret u =>
    obtain ⟨v, σ', H', J, rv, q⟩ := hs
    exact fin J rv q
  | next =>
    obtain ⟨σ', H', J, q⟩ := hs
    exact fin (v := V.non) (u := Value.none) J rfl q
  | brk =>
    obtain ⟨_, _, _, q⟩ := hs
    exact False.elim q
  | cont =>
    obtain ⟨_, _, _, q⟩ := hs
    exact False.elim q
end L2

namespace L2
open PySem PySem.Spec PyProof.Rows
section
variable {X : Cx} {x : Str} {p pos : Pos} {e : Expr} {es : List Expr} {t : TA} {id T : String} {r : List V → Hp → VK → Prop}

def tCB (r : List V → Hp → VK → Prop) (t : TA) : TE := fun σ H Q => t σ H fun vs H1 => r vs H1 Q
/-- f(e, ..), f a built-in function -/
theorem pe_callB (hc : CallR X (.builtin id) r) (hg : Gl X x) (hm : X.mg x = none) (hv : bootBuiltins x = some (.builtin id)) (ha : PA X (e :: es) t) (hn : x ≠ "__name__" := by decide) (hdb : (x == ("__debug__" : Str)) = false := by decide)
    (he : starEach (e :: es) X.env = (false, eval e X.env) :: starEach es X.env := by rfl) (hpl : (backTo pos (starEach es X.env)).any (·.1) = false := by rfl) : PE X (.Call (.Name x p) (e :: es) [] pos) (tCB r t) := by
  intro pins s σ H Q I h
  refine wpAny_Call_Name_kw (ld_blt I hg hm hv ?_ hn hdb)
  exact PyProof.Rows.callWith_builtin1 (thn (ha pos pins s σ H _ I h) fun us s1 ⟨vs, H1, I1, r1, q1⟩ => hc pins s1 σ H1 vs us Q I1 r1 q1) he hpl
/-- T(e, ..), T a built-in type -/
theorem pe_callTy (hc : CallR X (.type T) r) (hg : Gl X x) (hm : X.mg x = none) (hv : bootBuiltins x = some (.type T)) (ha : PA X (e :: es) t) (hn : x ≠ "__name__" := by decide) (hdb : (x == ("__debug__" : Str)) = false := by decide)
    (he : starEach (e :: es) X.env = (false, eval e X.env) :: starEach es X.env := by rfl) (hpl : (backTo pos (starEach es X.env)).any (·.1) = false := by rfl) : PE X (.Call (.Name x p) (e :: es) [] pos) (tCB r t) := by
  intro pins s σ H Q I h
  refine wpAny_Call_Name_kw (ld_blt I hg hm hv ?_ hn hdb)
  exact PyProof.Rows.callWith_type1 (thn (ha pos pins s σ H _ I h) fun us s1 ⟨vs, H1, I1, r1, q1⟩ => hc pins s1 σ H1 vs us Q I1 r1 q1) he hpl
/-- T() -/
theorem pe_callTy0 (hc : CallR X (.type T) r) (hg : Gl X x) (hm : X.mg x = none) (hv : bootBuiltins x = some (.type T)) (hn : x ≠ "__name__" := by decide) (hdb : (x == ("__debug__" : Str)) = false := by decide) :
    PE X (.Call (.Name x p) [] [] pos) (tCB r tNil) := by
  intro pins s σ H Q I h
  refine wpAny_Call_Name_kw (ld_blt I hg hm hv ?_ hn hdb)
  exact PyProof.Rows.callWith_type0 (hc pins s σ H [] [] Q I .nil h)
end
end L2

namespace HT
open PySem PyProof.Rows

/-- t < u of tuples of ints -/
def lexLt : List Int → List Int → Bool
  | [], [] => false
  | [], _ :: _ => true
  | _ :: _, [] => false
  | x :: xs, y :: ys => if x = y then lexLt xs ys else decide (x < y)
theorem lexLt_cons (x y : Int) (xs ys : List Int) : lexLt (x :: xs) (y :: ys) = if x = y then lexLt xs ys else decide (x < y) := rfl
theorem lexLt_nil_nil : lexLt [] [] = false := rfl
theorem lexLt_nil_cons (y : Int) (ys : List Int) : lexLt [] (y :: ys) = true := rfl
theorem lexLt_cons_nil (x : Int) (xs : List Int) : lexLt (x :: xs) [] = false := rfl

theorem eqAt_int (A : Around) (s : Shared) (a : Int) (t : Tok) (c : Int) (u : Tok) : ∃ e, SeqAt.EqAt A s (.int a t) (.int c u) e ∧ (e = true ↔ a = c) :=
  ⟨(a == c), SeqAt.EqAt.int_int a t c u, by simp⟩
theorem rcLt_int (A : Around) (s : Shared) (a : Int) (t : Tok) (c : Int) (u : Tok) (prog : Program) (w : World) (E : Value → Shared → Prop) (Q : Value → Shared → Prop) (h : Q (.bool (decide (a < c))) s) :
    wpAny (model prog w) A (richCompare .Lt (.int a t) (.int c u)) Q E s :=
  (PyProof.Rows.lt_int h : wpAny (model prog w) A (compareOp .Lt (.int a t) (.int c u)) Q E s)

section
open PySem.SeqAt
open PySem.AutoSeq1 (wpAny_loadPart')
open PySem.MeetsSeq PySem.MeetsSeq2 PySem.MeetsSeq3

theorem tuple_lt_ints (l b : Addr) (items items2 : Array Value) (n n2 : Nat) (dd dd2 : Option Addr) (sl sl2 : Array (Option Value)) (ns ms : List Int) (hi : IntsAre items.toList ns) (hj : IntsAre items2.toList ms) :
    Meets (Builtin.«tuple.__lt__» ⟨[.ref l, .ref b], []⟩)
      (fun _ R s => s.heap.get? l = some { cls := .type "tuple", dict := dd, data := .seq items n, slots := sl } ∧ s.heap.get? b = some { cls := .type "tuple", dict := dd2, data := .seq items2 n2, slots := sl2 } ∧
        R (.ok (.ret (.bool (lexLt ns ms)))) s) :=
  .of_wp fun prog w A R s h => by
    obtain ⟨hp, g, d, tk, os⟩ := s; obtain ⟨hl, hb, h⟩ := h
    have f2 := AutoSeq1.sub_tuple_tuple
    have z1 : items.size = ns.length := by rw [← hi.length]; simp
    have z2 : items2.size = ms.length := by rw [← hj.length]; simp
    wp_walk using wpAny_loadPart' hl, wpAny_loadPart' hb, wpAny_forIn_list _ (fun rest b s' => b.1 = none ∧ s' = ⟨hp, g, d, tk, os⟩ ∧ ∃ (vs ws : List Value) (ns' ms' : List Int), rest = vs.zip ws ∧
      IntsAre vs ns' ∧ IntsAre ws ms' ∧ ns'.length + items2.size = ms'.length + items.size ∧ R (.ok (.ret (.bool (lexLt ns' ms')))) ⟨hp, g, d, tk, os⟩) _
    case turn =>
      rintro ⟨y, x⟩ rest b s' ⟨hb', rfl, vs, ws, ns', ms', hz, hvi, hwi, hlen, hR⟩
      cases hvi with
      | nil => rw [List.zip_nil_left] at hz; cases hz
      | cons a t hvi' =>
        cases hwi with
        | nil => rw [List.zip_nil_right] at hz; cases hz
        | cons c u hwi' =>
          rw [List.zip_cons_cons] at hz
          injection hz with hyx hrest
          injection hyx with hy hx
          subst hy hx
          rw [lexLt_cons] at hR
          simp only [List.length_cons] at hlen
          obtain ⟨e, he, hiff⟩ := eqAt_int A.in1 ⟨hp, g, d, tk, os⟩ a t c u
          refine wpAny_bind (he prog w _ _ ?_)
          cases e with
          | true =>
            rw [if_pos (hiff.mp rfl)] at hR
            wp_walk
            exact ⟨rfl, rfl, _, _, _, _, hrest, hvi', hwi', by omega, hR⟩
          | false =>
            rw [if_neg (fun q => absurd (hiff.mpr q) Bool.false_ne_true)] at hR
            have hri := rcLt_int A.in1 ⟨hp, g, d, tk, os⟩ a t c u prog w
            wp_walk using hri
            exact ⟨_, rfl, by simpa using hR⟩
    case fin =>
      rintro ⟨b1, b2⟩ s' ⟨hb', rfl, vs, ws, ns', ms', hz, hvi, hwi, hlen, hR⟩
      simp only at hb'
      subst hb'
      have hv : lexLt ns' ms' = decide (items.size < items2.size) := by
        cases hvi with
        | nil =>
          cases hwi with
          | nil =>
            simp only [List.length_nil] at hlen
            rw [lexLt_nil_nil]
            exact (decide_eq_false (by omega)).symm
          | cons c u hw =>
            simp only [List.length_nil, List.length_cons] at hlen
            rw [lexLt_nil_cons]
            exact (decide_eq_true (by omega)).symm
        | cons a t hv =>
          cases hwi with
          | nil =>
            simp only [List.length_nil, List.length_cons] at hlen
            rw [lexLt_cons_nil]
            exact (decide_eq_false (by omega)).symm
          | cons c u hw =>
            rw [List.zip_cons_cons] at hz
            cases hz
      rw [hv] at hR
      wp_walk
      exact ⟨_, rfl, by simpa [Builtin.Tuple.tupleCompareSizes] using hR⟩
    case h =>
      exact ⟨rfl, rfl, items.toList, items2.toList, ns, ms, rfl, hi, hj, by omega, h⟩
end

section
variable {prog : Program} {w : World} {A : Around} {E : Value → Shared → Prop} {s : Shared}

theorem lt_tupInts {l b : Addr} {items items2 : Array Value} {ns ms : List Int} {Q : Value → Shared → Prop} (hl : IsTup s.heap l items) (hb : IsTup s.heap b items2) (hi : IntsAre items.toList ns) (hj : IntsAre items2.toList ms)
    (hu : A.units < cLine) (h : Q (.bool (lexLt ns ms)) s) : wpAny (model prog w) A (compareOp .Lt (.ref l) (.ref b)) Q E s := by
  obtain ⟨⟨cls, dd, data, sl⟩, ho, hc, n, hd⟩ := id hl
  obtain ⟨⟨cls2, dd2, data2, sl2⟩, ho2, hc2, n2, hd2⟩ := id hb
  simp only at hc hd hc2 hd2
  subst hc hd hc2 hd2
  exact richCompare_meets_room (op := .Lt) ⟨_, ho, rfl⟩ ⟨_, ho2, rfl⟩ PySem.F.slot_tuple_lt PySem.F.entry_tuple_lt (PySem.F.args_tuple_lt_2 _ _) (tuple_lt_ints l b items items2 n n2 dd dd2 sl sl2 ns ms hi hj)
    ⟨ho, ho2, show Value.bool (lexLt ns ms) ≠ Value.notImplemented ∧ Q (.bool (lexLt ns ms)) s from ⟨(fun x => nomatch x), h⟩⟩ hu

/-- t + u, t not empty -/
theorem cat_tup {t b : Addr} {vs ws : List Value} {Q : Value → Shared → Prop} (ht : IsTup s.heap t vs.toArray) (hb : IsTup s.heap b ws.toArray) (hv : vs ≠ [])
    (h1 : ws = [] → Q (.ref t) s) (h2 : ws ≠ [] → Q (.ref s.heap.objs.size) { s with heap := s.heap.push { cls := .type "tuple", data := .seq (vs ++ ws).toArray } })
    (hsz : vs.length + ws.length ≤ sizeLine) : wpAny (model prog w) A (binaryOp .Add (.ref t) (.ref b)) Q E s := by
  obtain ⟨⟨cls, dd, data, sl⟩, ho, hc, n, hd⟩ := id ht
  obtain ⟨⟨cls2, dd2, data2, sl2⟩, ho2, hc2, n2, hd2⟩ := id hb
  simp only at hc hd hc2 hd2
  subst hc hd hc2 hd2
  have e : vs.toArray ++ ws.toArray = (vs ++ ws).toArray := by simp
  by_cases hw : ws = []
  · exact concat_meets ⟨_, ho, rfl⟩ ⟨_, ho2, rfl⟩ noFill_tuple_add seq_tuple_add PySem.F.slot_tuple_add PySem.F.entry_tuple_add (PySem.F.args_tuple_add_2 _ _)
      (tuple_addW1 t b vs.toArray ws.toArray n n2 dd dd2 sl sl2 (by simpa using hv) (by simp [hw])) ⟨ho, ho2, h1 hw⟩
  · refine concat_meets ⟨_, ho, rfl⟩ ⟨_, ho2, rfl⟩ noFill_tuple_add seq_tuple_add PySem.F.slot_tuple_add PySem.F.entry_tuple_add (PySem.F.args_tuple_add_2 _ _)
      (tuple_addW2 t b vs.toArray ws.toArray n n2 dd dd2 sl sl2 (by simpa using hv) (by simpa using hw) (by rw [List.size_toArray, List.size_toArray]; exact hsz)) ⟨ho, ho2, ?_⟩
    rw [e]
    exact h2 hw

/-! ### t[a:b], not the whole -/
/-- a slice's bound as a place among n (d where it is left out) -/
def sIx (n d : Nat) : Option Int → Nat
  | none => d
  | some v => if v < 0 then (v + (n : Int)).toNat else min v.toNat n
theorem sIx_none (n d : Nat) : sIx n d none = d := rfl
theorem sIx_nat (n d k : Nat) : sIx n d (some (k : Int)) = min k n := by
  show (if (k : Int) < 0 then ((k : Int) + (n : Int)).toNat else min (k : Int).toNat n) = min k n
  rw [if_neg (by omega), Int.toNat_natCast]
theorem sIx_le (n d : Nat) (hd : d ≤ n) (o : Option Int) : sIx n d o ≤ n := by
  cases o with
  | none => exact hd
  | some v =>
    show (if v < 0 then (v + (n : Int)).toNat else min v.toNat n) ≤ n
    by_cases hv : v < 0
    · rw [if_pos hv]; omega
    · rw [if_neg hv]; exact Nat.min_le_right _ _
theorem clip_eq (v : Int) (n d : Nat) : (if v < 0 then max (v + (n : Int)) 0 else min v (n : Int)) = ((sIx n d (some v) : Nat) : Int) := by
  show (if v < 0 then max (v + (n : Int)) 0 else min v (n : Int)) = (((if v < 0 then (v + (n : Int)).toNat else min v.toNat n) : Nat) : Int)
  by_cases hv : v < 0
  · simp only [if_pos hv]; omega
  · simp only [if_neg hv]; omega
theorem adjust_gen (lo hi : Option Int) (n : Nat) : Builtin.Slice.sliceAdjust lo hi 1 (n : Int) = (((sIx n 0 lo : Nat) : Int), ((sIx n n hi : Nat) : Int)) := by
  have h1 : ¬ ((1 : Int) < 0) := by omega
  unfold Builtin.Slice.sliceAdjust
  simp only [h1, if_false]
  refine Prod.ext ?_ ?_
  · cases lo with
    | none => rfl
    | some v => exact clip_eq v n 0
  · cases hi with
    | none => rfl
    | some v => exact clip_eq v n n
theorem places_gen (i j : Nat) : Builtin.Slice.slicePlaces (i : Int) (j : Int) 1 = j - i := by
  unfold Builtin.Slice.slicePlaces
  have h1 : (1 : Int) > 0 := by omega
  simp only [h1, if_true, Int.ediv_one]
  split <;> omega
theorem slicePart_ {v : Value} {o : Option Int} {Q : Option Int → Shared → Prop} (p : IsPart v o) (h : Q o s) : wpAny (model prog w) A (Builtin.Slice.slicePartIndex v) Q E s := by
  cases p with
  | none => exact slicePart_none h
  | int i t => exact slicePart_int h
theorem sliceApplied_gen {sl : Addr} {vl vu : Value} {lo hi : Option Int} {n : Nat} {Q : Int × Int × Nat → Shared → Prop} (hs : s.heap.IsSliceOf sl vl vu .none) (pl : IsPart vl lo) (pu : IsPart vu hi)
    (h : Q (((sIx n 0 lo : Nat) : Int), 1, sIx n n hi - sIx n 0 lo) s) : wpAny (model prog w) A (Builtin.Slice.sliceApplied (.ref sl) (pure (n : Int))) Q E s := by
  obtain ⟨os, hos, hcs, hds⟩ := id hs
  unfold Builtin.Slice.sliceApplied Builtin.Slice.sliceFields
  refine wpAny_bind (wpAny_bind (wpAny_field hos hds (x := vl) rfl (wpAny_bind (wpAny_field hos hds (x := vu) rfl (wpAny_bind (wpAny_field hos hds (x := .none) rfl (wpAny_pure ?_)))))))
  refine wpAny_bind (slicePart_none ?_)
  show wpAny _ _ (if ((1 : Int) == 0) = true then _ else _) _ _ s
  rw [if_neg (by decide)]
  refine wpAny_bind (slicePart_ pl (wpAny_bind (slicePart_ pu (wpAny_bind (wpAny_pure ?_)))))
  show wpAny _ _ (match Builtin.Slice.sliceAdjust lo hi 1 (n : Int) with | (lo, hi) => pure (lo, (1 : Int), Builtin.Slice.slicePlaces lo hi 1)) _ _ s
  rw [adjust_gen lo hi n]
  show wpAny _ _ (pure (((sIx n 0 lo : Nat) : Int), (1 : Int), Builtin.Slice.slicePlaces ((sIx n 0 lo : Nat) : Int) ((sIx n n hi : Nat) : Int) 1)) _ _ s
  rw [places_gen]
  exact wpAny_pure h
theorem pick_gen (xs : Array Value) (i k : Nat) : ((List.range k).filterMap fun (m : Nat) => xs[((i : Int) + (m : Int) * 1).toNat]?).toArray = ((xs.toList.drop i).take k).toArray := by
  have e : (fun (m : Nat) => xs[((i : Int) + (m : Int) * 1).toNat]?) = fun m => xs[i + m]? := by
    funext m
    have : ((i : Int) + (m : Int) * 1).toNat = i + m := by omega
    rw [this]
  rw [e]
  have := pick_run xs i k
  rw [List.filterMap_map] at this
  have e2 : ((fun x => xs[x]?) ∘ fun x => i + x) = fun m => xs[i + m]? := rfl
  rw [e2] at this
  rw [this]

theorem getItem_tuple_cut {t sl : Addr} {items : Array Value} {vl vu : Value} {lo hi : Option Int} {Q : Value → Shared → Prop} (ht : IsTup s.heap t items) (hs : s.heap.IsSliceOf sl vl vu .none) (pl : IsPart vl lo) (pu : IsPart vu hi)
    (hw : ¬ (sIx items.size 0 lo = 0 ∧ sIx items.size items.size hi = items.size))
    (h : Q (.ref s.heap.objs.size) { s with heap := s.heap.push { cls := .type "tuple", data := .seq ((items.toList.drop (sIx items.size 0 lo)).take (sIx items.size items.size hi - sIx items.size 0 lo)).toArray } })
    (hsz : items.size ≤ sizeLine) : wpAny (model prog w) A (getItem (.ref t) (.ref sl)) Q E s := by
  have htake : sizeOk (.seq ((items.toList.drop (sIx items.size 0 lo)).take (sIx items.size items.size hi - sIx items.size 0 lo)).toArray) := by
    show ((items.toList.drop (sIx items.size 0 lo)).take (sIx items.size items.size hi - sIx items.size 0 lo)).toArray.size ≤ sizeLine
    rw [List.size_toArray, List.length_take, List.length_drop, Array.length_toList]
    omega
  have hj : sIx items.size items.size hi ≤ items.size := sIx_le _ _ (Nat.le_refl _) hi
  obtain ⟨os, hos, hcs, hds⟩ := id hs
  have hTs : s.TypeIs (.ref sl) "slice" := ⟨os, hos, hcs⟩
  unfold getItem
  try with_reducible refine wpAny_holding ?_
  first | refine wpAny_bind (wpAny_pure ?_) | skip
  refine wpAny_bind (wpAny_sequenceKey ht.typeIs (by decide) ?_)
  refine wpAny_bind (wpAny_callSpecial?_slot (name := Str.ofString "__getitem__") ht.typeIs PyProof.Rows.slot_tuple_getitem
    (wpAny_call_entry PyProof.Rows.slot_tuple_getitem ht.typeIs entry_tuple_getitem ?_ (args_tuple_getitem _ _)))
  show wpAny _ _ (Builtin.Tuple.tupleItemsOf (.ref t) >>= _) _ _ s
  refine wpAny_bind (tupleItemsOf_ ht ?_)
  refine wpAny_bind (wpAny_typeOf hTs ?_)
  rw [if_pos (by decide)]
  refine wpAny_bind (sliceApplied_gen hs pl pu ?_)
  have hno : ¬ ((((sIx items.size 0 lo : Nat) : Int) == 0 && (1 : Int) == 1 && (sIx items.size items.size hi - sIx items.size 0 lo) == items.size) = true) := by
    intro q
    rw [Bool.and_eq_true, Bool.and_eq_true] at q
    have q1 : ((sIx items.size 0 lo : Nat) : Int) = 0 := eq_of_beq q.1.1
    have q2 : sIx items.size items.size hi - sIx items.size 0 lo = items.size := eq_of_beq q.2
    exact hw ⟨by omega, by omega⟩
  show wpAny _ _ (if (((sIx items.size 0 lo : Nat) : Int) == 0 && (1 : Int) == 1 && (sIx items.size items.size hi - sIx items.size 0 lo) == items.size) = true then _ else _) _ _ s
  rw [if_neg hno, pick_gen]
  first
    | exact wpAny_bind (m := Builtin.Tuple.tupleExact _) (wpAny_newObj_type (wpAny_pure ⟨_, rfl, wpAny_pure h⟩) htake)
    | exact wpAny_bind (m := Builtin.Tuple.tupleExact _) (wpAny_newObj_type (wpAny_bind (wpAny_pure (wpAny_pure ⟨_, rfl, wpAny_pure h⟩))) htake)
    | exact wpAny_bind (wpAny_bind (m := Builtin.Tuple.tupleExact _) (wpAny_newObj_type (wpAny_pure (wpAny_pure ⟨_, rfl, wpAny_pure h⟩)) htake))
    | exact wpAny_bind (wpAny_bind (m := Builtin.Tuple.tupleExact _) (wpAny_newObj_type (wpAny_pure ⟨_, rfl, wpAny_pure h⟩) htake))
end
end HT

namespace L2
open PySem PySem.Spec PyProof.Rows

/-! ### the parts of a slice -/
abbrev TO := St → Hp → (Option Int → Hp → Prop) → Prop
/-- a slice's part (left out, or an int) -/
def PO (X : Cx) (e : Option Expr) (t : TO) : Prop :=
  ∀ (pins : List (Addr × Obj)) (s : Shared) (σ : St) (H : Hp) (Q : Option Int → Hp → Prop), Inv X pins σ H s → t σ H Q →
    wpAny (model X.prog X.w) X.A (evalPart e X.env) (fun u s' => ∃ o H', Inv X pins σ H' s' ∧ IsPart u o ∧ Q o H') X.xe s
def tNoPart : TO := fun _ H Q => Q none H
def tPart (t : TE) : TO := fun σ H Q => t σ H fun x H1 => ∃ i, x = .int i ∧ Q (some i) H1

theorem intsAre_of {ns : List Int} : ∀ {us : List Value}, Vals (ns.map V.int) us → IntsAre us ns := by
  induction ns with
  | nil => intro us r; rw [List.map_nil] at r; cases r; exact .nil
  | cons n ns ih =>
    intro us r
    rw [List.map_cons] at r
    cases r with
    | cons r1 r2 =>
      obtain ⟨t, e⟩ := r1
      subst e
      exact .cons n t (ih r2)

section
variable {X : Cx} {e : Expr} {te : TE} {lo hi : Option Expr} {tl th : TO} {pos p2 : Pos}

theorem po_none : PO X none tNoPart := by
  intro pins s σ H Q I h
  rw [evalPart_none]
  exact wpAny_pure ⟨none, H, I, .none, h⟩
theorem po_some (h : PE X e te) : PO X (some e) (tPart te) := by
  intro pins s σ H Q I hw
  rw [evalPart_some]
  refine thn (h pins s σ H _ I hw) fun u s1 ⟨x, H1, I1, r1, q1⟩ => ?_
  obtain ⟨i, rfl, q⟩ := q1
  obtain ⟨t, rfl⟩ := r1
  exact ⟨some i, H1, I1, .int i t, q⟩

/-- what a slice of a value is, by values: the slice object stands at sl -/
def SlR (X : Cx) (r : V → Option Int → Option Int → Hp → VK → Prop) : Prop :=
  ∀ (pins : List (Addr × Obj)) (s : Shared) (σ : St) (H : Hp) (x : V) (v vl vu : Value) (lo hi : Option Int) (sl : Addr) (Q : VK), Inv X pins σ H s → RelV x v → s.heap.IsSliceOf sl vl vu .none → IsPart vl lo → IsPart vu hi → r x lo hi H Q →
    ∃ T id, typeLookup (.type T) "__getitem__" = pure (some (.builtin id)) ∧ s.TypeIs v T ∧ wpAny (model X.prog X.w) X.A (getItem v (.ref sl)) (EP X pins σ Q) X.xe s
theorem SlR.or {r r' : V → Option Int → Option Int → Hp → VK → Prop} (h : SlR X r) (h' : SlR X r') : SlR X (fun x lo hi H Q => r x lo hi H Q ∨ r' x lo hi H Q) := by
  intro pins s σ H x v vl vu lo hi sl Q I rx hs pl pu q
  rcases q with q | q
  · exact h pins s σ H x v vl vu lo hi sl Q I rx hs pl pu q
  · exact h' pins s σ H x v vl vu lo hi sl Q I rx hs pl pu q
def tSl (r : V → Option Int → Option Int → Hp → VK → Prop) (te : TE) (tl th : TO) : TE := fun σ H Q => te σ H fun x H1 => tl σ H1 fun l H2 => th σ H2 fun u H3 => r x l u H3 Q
/-- a[lo:hi], any a -/
theorem pe_slice {r : V → Option Int → Option Int → Hp → VK → Prop} (hr : SlR X r) (he : PE X e te) (hl : PO X lo tl) (hu : PO X hi th) : PE X (.Subscript e (.Slice lo hi none p2) pos) (tSl r te tl th) := by
  intro pins s σ H Q I h
  refine Subscript_ (thn (he pins s σ H _ I h) fun v s1 ⟨x, H1, I1, r1, q1⟩ => ?_)
  refine wpAny_Slice (thn (hl pins s1 σ H1 _ I1 q1) fun vl s2 ⟨l, H2, I2, pl, q2⟩ => thn (hu pins s2 σ H2 _ I2 q2) fun vu s3 ⟨u, H3, I3, pu, q3⟩ => ?_)
  rw [evalPart_none]
  refine wpAny_pure ?_
  have I4 : Inv X pins σ H3 { s3 with heap := s3.heap.push { cls := .type "slice", data := .fields #[vl, vu, .none] } } := I3.kept (t' := s3.toks) fun b ob q => Heap.get?_push_of_some _ q
  obtain ⟨T, id, hT, ht, hg⟩ := hr pins { s3 with heap := s3.heap.push { cls := .type "slice", data := .fields #[vl, vu, .none] } } σ H3 x v vl vu l u s3.heap.objs.size Q I4 r1 (Heap.IsSliceOf.new ..) pl pu q3
  show wpAny (model X.prog X.w) X.A (subscriptTail e (.Slice lo hi none p2) v (.ref s3.heap.objs.size)) (EP X pins σ Q) X.xe { s3 with heap := s3.heap.push { cls := .type "slice", data := .fields #[vl, vu, .none] } }
  exact tail_any (ops := [.ref s3.heap.objs.size, v]) ht hT hg (by with_unfolding_all rfl)

/-- the items of xs[lo:hi] -/
def cutV (xs : List V) (lo hi : Option Int) : List V := (xs.drop (HT.sIx xs.length 0 lo)).take (HT.sIx xs.length xs.length hi - HT.sIx xs.length 0 lo)
theorem cutV_length (xs : List V) (lo hi : Option Int) : (cutV xs lo hi).length ≤ xs.length := by
  unfold cutV
  rw [List.length_take, List.length_drop]
  omega
/-- t[lo:hi], not the whole of it (the whole would be t itself) -/
def rSlT (K : PySem.W.Frag) : V → Option Int → Option Int → Hp → VK → Prop := fun x lo hi H Q => ∃ a xs, x = .ref a ∧ SqT K H a xs ∧
  ¬ (HT.sIx xs.length 0 lo = 0 ∧ HT.sIx xs.length xs.length hi = xs.length) ∧ ∀ p, H p = none → Q (.ref p) (upd H p (.tup (cutV xs lo hi)))
theorem sl_tup : SlR X (rSlT X.K) := by
  intro pins s σ H x v vl vu lo hi sl Q I rx hs pl pu h
  obtain ⟨a, xs, rfl, hx, hw, q⟩ := h
  cases rx
  obtain ⟨its, r, ht, hz⟩ := I.tuple hx
  have hlen : its.toArray.size = xs.length := by rw [List.size_toArray]; exact r.length.symm
  refine ⟨"tuple", _, PyProof.Rows.slot_tuple_getitem.lookup, ht.typeIs, ?_⟩
  refine HT.getItem_tuple_cut ht hs pl pu (by rw [hlen]; exact hw) ?_ (by rw [hlen]; exact hz)
  rw [hlen]
  refine ⟨.ref s.heap.objs.size, _, I.laid (t' := s.toks) (o := .tup (cutV xs lo hi)) (fun b ob q => Heap.get?_push_of_some _ q) (Nat.le_refl _) ?_, rfl, q _ (I.hok.fresh (Nat.le_refl _))⟩
  exact ⟨Nat.le_trans (cutV_length xs lo hi) hz, _, (r.drop (HT.sIx xs.length 0 lo)).take (HT.sIx xs.length xs.length hi - HT.sIx xs.length 0 lo), IsTup.new _ _⟩

/-! ### t < u, t + u -/
def rLtT (K : PySem.W.Frag) : R2 := fun x y H Q => ∃ a b ns ms, x = .ref a ∧ y = .ref b ∧ SqT K H a (ns.map V.int) ∧ SqT K H b (ms.map V.int) ∧ Q (.bl (HT.lexLt ns ms)) H
theorem op_ltT (hu : X.A.units < cLine) : OpR X (compareOp .Lt) (rLtT X.K) := by
  intro pins s σ H x y v u Q I rx ry h
  obtain ⟨a, b, ns, ms, rfl, rfl, ha, hb, q⟩ := h
  cases rx
  cases ry
  obtain ⟨its, r1, p1, _⟩ := I.tuple ha
  obtain ⟨its2, r2, p2, _⟩ := I.tuple hb
  have i1 : IntsAre its.toArray.toList ns := intsAre_of r1
  have i2 : IntsAre its2.toArray.toList ms := intsAre_of r2
  exact HT.lt_tupInts p1 p2 i1 i2 hu ⟨.bl (HT.lexLt ns ms), H, I, rfl, q⟩
/-- t + u, t not empty: u empty gives t itself -/
def rCatT (K : PySem.W.Frag) : R2 := fun x y H Q => ∃ a b xs ys, x = .ref a ∧ y = .ref b ∧ SqT K H a xs ∧ SqT K H b ys ∧ xs ≠ [] ∧ xs.length + ys.length ≤ sizeLine ∧
  (ys = [] → Q (.ref a) H) ∧ (ys ≠ [] → ∀ p, H p = none → Q (.ref p) (upd H p (.tup (xs ++ ys))))
theorem Vals.nil_iff {xs : List V} {us : List Value} (r : Vals xs us) : us = [] ↔ xs = [] := by
  cases r with
  | nil => simp
  | cons _ _ => simp
theorem op_catT : OpR X (binaryOp .Add) (rCatT X.K) := by
  intro pins s σ H x y v u Q I rx ry h
  obtain ⟨a, b, xs, ys, rfl, rfl, ha, hb, hx, hz, q1, q2⟩ := h
  cases rx
  cases ry
  obtain ⟨its, r1, p1, _⟩ := I.tuple ha
  obtain ⟨its2, r2, p2, _⟩ := I.tuple hb
  refine HT.cat_tup p1 p2 (fun z => hx (r1.nil_iff.mp z)) (fun z => ⟨.ref a, H, I, rfl, q1 (r2.nil_iff.mp z)⟩) (fun z => ?_) (by rw [← r1.length, ← r2.length]; exact hz)
  refine ⟨.ref s.heap.objs.size, _, I.laid (t' := s.toks) (o := .tup (xs ++ ys)) (fun b ob q => Heap.get?_push_of_some _ q) (Nat.le_refl _) ?_, rfl, q2 (fun w => z (r2.nil_iff.mpr w)) _ (I.hok.fresh (Nat.le_refl _))⟩
  exact ⟨by rw [List.length_append]; exact hz, _, r1.append r2, IsTup.new _ _⟩
/-- tuple(t) -/
theorem call_tupleT : CallR X (.type "tuple") (fun xs H Q => ∃ a ys, xs = [.ref a] ∧ SqT X.K H a ys ∧ Q (.ref a) H) := by
  intro pins s σ H xs us Q I r h
  obtain ⟨a, ys, rfl, ha, q⟩ := h
  obtain ⟨u, rfl, ru⟩ := vals1 r
  cases ru
  obtain ⟨its, _, p1, _⟩ := I.tuple ha
  exact call_tuple_same (items := its.toArray) p1 ⟨.ref a, H, I, rfl, q⟩
end
end L2

namespace L2
open PySem PySem.Spec PyProof.Rows

/-! ### places -/
/-- the place that an index of any sign means -/
def ixN (n : Nat) (i : Int) : Option Nat := if 0 ≤ i then (if i < n then some i.toNat else none) else if -(n : Int) ≤ i then some (i + n).toNat else none
def atI {α : Type} (xs : List α) (i : Int) : Option α := (ixN xs.length i).bind fun j => xs[j]?
theorem ixN_seq {n : Nat} {i : Int} {j : Nat} (h : ixN n i = some j) : seqIndex? i n = some j ∧ j < n ∧ -(n : Int) ≤ i ∧ i < n := by
  unfold ixN at h
  by_cases h0 : 0 ≤ i
  · rw [if_pos h0] at h
    by_cases h1 : i < n
    · rw [if_pos h1] at h
      have e : i.toNat = j := Option.some.inj h
      exact ⟨by rw [seqIndex_of h0 h1, e], by omega, by omega, h1⟩
    · rw [if_neg h1] at h; cases h
  · rw [if_neg h0] at h
    by_cases h1 : -(n : Int) ≤ i
    · rw [if_pos h1] at h
      have e : (i + n).toNat = j := Option.some.inj h
      exact ⟨by rw [seqIndex_neg (by omega) h1, e], by omega, h1, by omega⟩
    · rw [if_neg h1] at h; cases h
theorem atI_get {α : Type} {xs : List α} {i : Int} {v : α} (h : atI xs i = some v) : ∃ j, seqIndex? i xs.length = some j ∧ xs[j]? = some v ∧ j < xs.length ∧ -(xs.length : Int) ≤ i ∧ i < xs.length := by
  unfold atI at h
  cases e : ixN xs.length i with
  | none => rw [e] at h; cases h
  | some j =>
    rw [e] at h
    obtain ⟨h1, h2, h3, h4⟩ := ixN_seq e
    exact ⟨j, h1, h, h2, h3, h4⟩
theorem atI_nat {α : Type} {xs : List α} {j : Nat} {v : α} (h : xs[j]? = some v) : atI xs (j : Int) = some v := by
  have hj : j < xs.length := (List.getElem?_eq_some_iff.mp h).1
  have e : ixN xs.length (j : Int) = some j := by
    unfold ixN
    rw [if_pos (by omega), if_pos (by omega)]; simp
  unfold atI; rw [e]; exact h
theorem atI_last {α : Type} (xs : List α) (v : α) : atI (xs ++ [v]) (-1) = some v := by
  have hl : (xs ++ [v]).length = xs.length + 1 := by simp
  have e : ixN (xs ++ [v]).length (-1) = some xs.length := by
    unfold ixN
    rw [hl, if_neg (by decide), if_pos (by omega)]
    congr 1
    omega
  unfold atI
  rw [e]
  show (xs ++ [v])[xs.length]? = some v
  simp

/-! ### what may be subscripted -/
/-- what stands as an index of a plain subscript -/
def PlainIx (b : Expr) : Prop := ∀ o i, subscripted b false o i = operate [o, i] (getItem o i)
/-- a subscript by values -/
def IxR (X : Cx) (r : R2) : Prop :=
  ∀ (value slice : Expr) (pins : List (Addr × Obj)) (s : Shared) (σ : St) (H : Hp) (x y : V) (v u : Value) (Q : VK), Inv X pins σ H s → RelV x v → RelV y u → r x y H Q →
    subscripted slice false v u = operate [v, u] (getItem v u) → wpAny (model X.prog X.w) X.A (subscriptTail value slice v u) (EP X pins σ Q) X.xe s
/-- a call of a builtin's method by values: the receiver, the arguments -/
def MtR (X : Cx) (id : String) (r : V → List V → Hp → VK → Prop) : Prop :=
  ∀ (pins : List (Addr × Obj)) (s : Shared) (σ : St) (H : Hp) (x : V) (xs : List V) (v : Value) (us : List Value) (Q : VK), Inv X pins σ H s → RelV x v → Vals xs us → r x xs H Q →
    wpAny (model X.prog X.w) X.A (call (.builtin id) (v :: us)) (EP X pins σ Q) X.xe s
section
variable {X : Cx} {a b : Expr} {ta tb : TE} {pos : Pos}
theorem IxR.or {r r' : R2} (h : IxR X r) (h' : IxR X r') : IxR X (fun x y H Q => r x y H Q ∨ r' x y H Q) := by
  intro value slice pins s σ H x y v u Q I rx ry q hs
  rcases q with q | q
  · exact h value slice pins s σ H x y v u Q I rx ry q hs
  · exact h' value slice pins s σ H x y v u Q I rx ry q hs
theorem MtR.or {id : String} {r r' : V → List V → Hp → VK → Prop} (h : MtR X id r) (h' : MtR X id r') : MtR X id (fun x xs H Q => r x xs H Q ∨ r' x xs H Q) := by
  intro pins s σ H x xs v us Q I rx rs q
  rcases q with q | q
  · exact h pins s σ H x xs v us Q I rx rs q
  · exact h' pins s σ H x xs v us Q I rx rs q
/-- a[b] -/
theorem pe_ix {r : R2} (hr : IxR X r) (ha : PE X a ta) (hb : PE X b tb) (hs : PlainIx b) : PE X (.Subscript a b pos) (tOp r ta tb) := by
  intro pins s σ H Q I h
  exact Subscript_ (binT ha hb I h fun v u s2 x y H2 I2 rx ry q => hr a b pins s2 σ H2 x y v u Q I2 rx ry q (hs _ _))

def rIxL (K : PySem.W.Frag) : R2 := fun x y H Q => ∃ p xs i v, x = .ref p ∧ y = .int i ∧ SqL K H p xs ∧ atI xs i = some v ∧ Q v H
def rIxT (K : PySem.W.Frag) : R2 := fun x y H Q => ∃ p xs i v, x = .ref p ∧ y = .int i ∧ SqT K H p xs ∧ atI xs i = some v ∧ Q v H
def rIxS : R2 := fun x y H Q => ∃ z i c, x = .str z ∧ y = .int i ∧ z.length ≤ sizeLine ∧ atI z.cps.toList i = some c ∧ Q (.str ⟨#[c]⟩) H
theorem ix_list : IxR X (rIxL X.K) := by
  intro value slice pins s σ H x y v u Q I rx ry h hs
  obtain ⟨p, xs, i, z, rfl, rfl, hq, he, q⟩ := h
  cases rx
  obtain ⟨t, rfl⟩ := ry
  obtain ⟨its, r, pl, hz⟩ := I.list hq
  obtain ⟨j, h1, h2, h3, h4, h5⟩ := atI_get he
  obtain ⟨w, ew, rw'⟩ := r.get h2
  have hl := r.length
  have hn := line63
  have fin : EP X pins σ Q w s := ⟨z, H, I, rw', q⟩
  by_cases h0 : 0 ≤ i
  · have hj : i.toNat = j := by
      rw [seqIndex_of h0 h5] at h1
      exact Option.some.inj h1
    exact item_listR pl.isList h0 (by omega) (by rw [hj]; simpa using ew) fin hs
  · have hj : (i + (its.toArray.size : Int)).toNat = j := by
      rw [seqIndex_neg (by omega) h4] at h1
      rw [List.size_toArray, ← hl]
      exact Option.some.inj h1
    exact subscriptTail_builtinR (x := w) pl.isList.typeIs slot_list_getitem.lookup
      (wpAny_getItem_list_neg (Q := fun r s' => r = w ∧ EP X pins σ Q r s') pl.isList (by omega) (by rw [List.size_toArray] <;> omega) (by omega) (by rw [hj]; simpa using ew) ⟨rfl, fin⟩) hs
theorem ix_tup : IxR X (rIxT X.K) := by
  intro value slice pins s σ H x y v u Q I rx ry h hs
  obtain ⟨p, xs, i, z, rfl, rfl, hq, he, q⟩ := h
  cases rx
  obtain ⟨t, rfl⟩ := ry
  obtain ⟨its, r, pl, hz⟩ := I.tuple hq
  obtain ⟨j, h1, h2, h3, h4, h5⟩ := atI_get he
  obtain ⟨w, ew, rw'⟩ := r.get h2
  have hl := r.length
  have hn := line63
  have fin : EP X pins σ Q w s := ⟨z, H, I, rw', q⟩
  exact subscriptTail_builtinR (x := w) pl.typeIs slot_tuple_getitem.lookup
    (getItem_tuple (j := j) (Q := fun r s' => r = w ∧ EP X pins σ Q r s') pl (by omega) (by omega) (by rw [List.size_toArray, ← hl]; exact h1) (by simpa using ew) ⟨rfl, fin⟩) hs
theorem ix_str : IxR X rIxS := by
  intro value slice pins s σ H x y v u Q I rx ry h hs
  obtain ⟨z, i, c, rfl, rfl, hz, he, q⟩ := h
  obtain ⟨t, rfl⟩ := rx
  obtain ⟨t', rfl⟩ := ry
  obtain ⟨j, h1, h2, h3, h4, h5⟩ := atI_get he
  have hl : z.cps.toList.length = z.length := by simp [Str.length]
  rw [hl] at h1 h4 h5
  have hn := line63
  exact tail_any (typeIs_str s z t) slot_str_getitem.lookup (getItem_str (c := c) (by
    have e1 : decide (i < -(2 ^ 63 : Int)) = false := decide_eq_false (by omega)
    have e2 : decide (i ≥ 2 ^ 63) = false := decide_eq_false (by omega)
    rw [e1, e2, Bool.or_false]) (by rw [h1]; simpa using h2) ⟨.str ⟨#[c]⟩, H, I.tok _, ⟨_, rfl⟩, q⟩) hs
/-- list, tuple or str -/
def rIx (K : PySem.W.Frag) : R2 := fun x y H Q => rIxL K x y H Q ∨ rIxT K x y H Q ∨ rIxS x y H Q
theorem ix_seq : IxR X (rIx X.K) := ix_list.or (ix_tup.or ix_str)

/-! ### xs[i] = v, any sign -/
/-- the list's object behind a store -/
theorem mapSeq_set (its : List Value) (n j : Nat) (u : Value) : Obj.mapSeq (·.setIfInBounds j u) { cls := .type "list", data := .seq its.toArray n } = { cls := .type "list", data := .seq (its.set j u).toArray n } := by
  simp [Obj.mapSeq]
theorem Inv.lst {pins : List (Addr × Obj)} {σ : St} {H : Hp} {s : Shared} {p : Addr} {xs : List V} (I : Inv X pins σ H s) (h : H p = some (.lst xs)) :
    ∃ (its : List Value) (n : Nat), Vals xs its ∧ s.heap.get? p = some { cls := .type "list", data := .seq its.toArray n } ∧ xs.length ≤ sizeLine := by
  obtain ⟨z, its, n, r, e⟩ := I.hok p _ h
  exact ⟨its, n, r, e, z⟩
/-- the list at p is written by an update of its object -/
theorem Inv.lstUpd {pins : List (Addr × Obj)} {σ : St} {H : Hp} {s : Shared} {p : Addr} {xs ys : List V} {its its' : List Value} {n n' : Nat} {f : Obj → Obj} (I : Inv X pins σ H s) (h : H p = some (.lst xs))
    (ho : s.heap.get? p = some { cls := .type "list", data := .seq its.toArray n }) (hf : f { cls := .type "list", data := .seq its.toArray n } = { cls := .type "list", data := .seq its'.toArray n' }) (r : Vals ys its') (hz : ys.length ≤ sizeLine) (t : Nat) :
    Inv X pins σ (upd H p (.lst ys)) { s with heap := s.heap.update p f, toks := t } := by
  have e : (s.heap.update p f).get? p = some { cls := .type "list", data := .seq its'.toArray n' } := by
    rw [Heap.get?_update_self f ho (by rw [hf] <;> rfl), hf]
  refine I.write (x := p) (e := p) (by rw [h]; trivial) (.inl rfl) (fun b u hb q => (Heap.get?_update_other _ _ (Ne.symm hb)).trans q) ⟨_, e⟩ ?_
  exact ⟨hz, its', n', r, e⟩
def rSetL : V → V → V → Hp → (Hp → Prop) → Prop := fun o i v H Q => ∃ p xs k j, o = .ref p ∧ i = .int k ∧ H p = some (.lst xs) ∧ ixN xs.length k = some j ∧ Q (upd H p (.lst (xs.set j v)))
theorem set_list : PSet X rSetL := by
  intro pins s σ H o i v ov iv u Q I ro ri rv h
  obtain ⟨p, xs, k, j, rfl, rfl, hp, hj, q⟩ := h
  cases ro
  obtain ⟨t, rfl⟩ := ri
  obtain ⟨its, n, r, ho, hz⟩ := I.lst hp
  obtain ⟨h1, h2, h3, h4⟩ := ixN_seq hj
  have hl := r.length
  have hn := line63
  have I' : Inv X pins σ (upd H p (.lst (xs.set j v))) { s with heap := s.heap.update p (Obj.mapSeq (·.setIfInBounds j u)) } :=
    I.lstUpd hp ho (mapSeq_set its n j u) (r.set rv j) (by rw [List.length_set]; exact hz) s.toks
  by_cases h0 : 0 ≤ k
  · have hk : k.toNat = j := by
      rw [seqIndex_of h0 h4] at h1
      exact Option.some.inj h1
    exact PySem.W.ki_setAt ho h0 (by omega) (by rw [List.size_toArray, ← hl]; exact h4) (by rw [hk]; exact ⟨_, I', q⟩)
  · have hk : (k + (its.toArray.size : Int)).toNat = j := by
      rw [seqIndex_neg (by omega) h3] at h1
      rw [List.size_toArray, ← hl]
      exact Option.some.inj h1
    exact PySem.W.ki_setBack ho (by omega) (by rw [List.size_toArray, ← hl]; exact h3) (by omega) (by rw [hk]; exact ⟨_, I', q⟩)

/-! ### slices -/
theorem slice_bounds (lo hi : Option Int) (n : Nat) : (sliceBounds lo hi none n).1 = ((HT.sIx n 0 lo : Nat) : Int) ∧ (sliceBounds lo hi none n).2.1 = ((HT.sIx n n hi : Nat) : Int) ∧ (sliceBounds lo hi none n).2.2 = 1 := by
  refine ⟨?_, ?_, rfl⟩
  · cases lo with
    | none => simp [sliceBounds, HT.sIx]
    | some i =>
      simp only [sliceBounds, HT.sIx, Option.getD_none, show (1 : Int) > 0 by decide, if_true]
      by_cases h : i < 0
      · simp only [h, if_true] <;> omega
      · simp only [h, if_false] <;> omega
  · cases hi with
    | none => simp [sliceBounds, HT.sIx]
    | some i =>
      simp only [sliceBounds, HT.sIx, Option.getD_none, show (1 : Int) > 0 by decide, if_true]
      by_cases h : i < 0
      · simp only [h, if_true] <;> omega
      · simp only [h, if_false] <;> omega
theorem slicePick_cut (its : List Value) (lo hi : Option Int) : slicePick its.toArray lo hi none = ((its.drop (HT.sIx its.length 0 lo)).take (HT.sIx its.length its.length hi - HT.sIx its.length 0 lo)).toArray := by
  obtain ⟨h1, h2, h3⟩ := slice_bounds lo hi its.toArray.size
  unfold slicePick
  rw [h1, h2, h3]
  simp only [sliceRange_one, pick_run, List.size_toArray] <;> rfl
/-- xs[lo:hi] of a list: a new list -/
def rSlL (K : PySem.W.Frag) : V → Option Int → Option Int → Hp → VK → Prop := fun x lo hi H Q => ∃ a xs, x = .ref a ∧ SqL K H a xs ∧ ∀ p, H p = none → Q (.ref p) (upd H p (.lst (cutV xs lo hi)))
theorem sl_list : SlR X (rSlL X.K) := by
  intro pins s σ H x v vl vu lo hi sl Q I rx hs pl pu h
  obtain ⟨a, xs, rfl, hx, q⟩ := h
  cases rx
  obtain ⟨its, r, ht, hz⟩ := I.list hx
  have hlen := r.length
  refine ⟨"list", _, slot_list_getitem.lookup, ht.isList.typeIs, ?_⟩
  refine wpAny_getItem_list_slice ht.isList hs pl pu .none (by simp) ?_ (by rw [List.size_toArray] <;> omega)
  rw [slicePick_cut, ← hlen]
  refine ⟨.ref s.heap.objs.size, _, I.laid (t' := s.toks) (o := .lst (cutV xs lo hi)) (fun b ob q => Heap.get?_push_of_some _ q) (Nat.le_refl _) ?_, rfl, q _ (I.hok.fresh (Nat.le_refl _))⟩
  exact ⟨Nat.le_trans (cutV_length xs lo hi) hz, _, 0, (r.drop (HT.sIx xs.length 0 lo)).take (HT.sIx xs.length xs.length hi - HT.sIx xs.length 0 lo), Heap.get?_push_size _ rfl⟩

/-! ### in, not in: flat items -/
def flatV : V → Bool
  | .non => true
  | .bl _ => true
  | .int _ => true
  | .str _ => true
  | _ => false
/-- == of flat values -/
def eqV : V → V → Bool
  | .non, .non => true
  | .bl a, .bl b => a == b
  | .bl a, .int b => (if a then 1 else 0) == b
  | .int a, .bl b => a == (if b then 1 else 0)
  | .int a, .int b => a == b
  | .str a, .str b => a == b
  | _, _ => false
theorem eqAt_V {A : Around} {s : Shared} {y x : V} {u v : Value} (ry : RelV y u) (rx : RelV x v) (fy : flatV y = true) (fx : flatV x = true) : SeqAt.EqAt A s u v (eqV y x) := by
  cases y with
  | non =>
    cases ry
    cases x with
    | non => cases rx; exact SeqAt.EqAt.same _
    | bl b => cases rx; exact SeqAt.EqAt.none_bool b
    | int b => obtain ⟨t, rfl⟩ := rx; exact SeqAt.EqAt.none_int b t
    | str b => obtain ⟨t, rfl⟩ := rx; exact SeqAt.EqAt.none_str b t
    | _ => exact absurd (show false = true from fx) Bool.false_ne_true
  | bl a =>
    cases ry
    cases x with
    | non => cases rx; exact SeqAt.EqAt.bool_none a
    | bl b => cases rx; exact SeqAt.EqAt.bool_bool a b
    | int b => obtain ⟨t, rfl⟩ := rx; exact SeqAt.EqAt.bool_int a b t
    | str b => obtain ⟨t, rfl⟩ := rx; exact SeqAt.EqAt.bool_str a b t
    | _ => exact absurd (show false = true from fx) Bool.false_ne_true
  | int a =>
    obtain ⟨t', rfl⟩ := ry
    cases x with
    | non => cases rx; exact SeqAt.EqAt.int_none a t'
    | bl b => cases rx; exact SeqAt.EqAt.int_bool a t' b
    | int b => obtain ⟨t, rfl⟩ := rx; exact SeqAt.EqAt.int_int a t' b t
    | str b => obtain ⟨t, rfl⟩ := rx; exact SeqAt.EqAt.int_str a t' b t
    | _ => exact absurd (show false = true from fx) Bool.false_ne_true
  | str a =>
    obtain ⟨t', rfl⟩ := ry
    cases x with
    | non => cases rx; exact SeqAt.EqAt.str_none a t'
    | bl b => cases rx; exact SeqAt.EqAt.str_bool a t' b
    | int b => obtain ⟨t, rfl⟩ := rx; exact SeqAt.EqAt.str_int a t' b t
    | str b => obtain ⟨t, rfl⟩ := rx; exact SeqAt.EqAt.str_str a t' b t
    | _ => exact absurd (show false = true from fx) Bool.false_ne_true
  | _ => exact absurd (show false = true from fy) Bool.false_ne_true
/-- the items' answers, read off the values (a value's own answer does not lean on its token) -/
def eqU (x : V) (u : Value) : Bool := match u with
  | .none => eqV .non x
  | .bool b => eqV (.bl b) x
  | .int i _ => eqV (.int i) x
  | .str z _ => eqV (.str z) x
  | _ => false
theorem eqU_of {x y : V} {u : Value} (r : RelV y u) (f : flatV y = true) : eqU x u = eqV y x := by
  cases y with
  | non => cases r; rfl
  | bl b => cases r; rfl
  | int i => obtain ⟨t, rfl⟩ := r; rfl
  | str z => obtain ⟨t, rfl⟩ := r; rfl
  | _ => exact absurd (show false = true from f) Bool.false_ne_true
theorem any_eqU {x : V} : ∀ {xs : List V} {us : List Value}, Vals xs us → xs.all flatV = true → us.any (eqU x) = xs.any fun y => eqV y x
  | _, _, .nil, _ => rfl
  | y :: xs, u :: us, .cons r t, f => by
    rw [List.all_cons, Bool.and_eq_true] at f
    rw [List.any_cons, List.any_cons, eqU_of r f.1, any_eqU t f.2]
theorem mem_eqAt {A : Around} {s : Shared} {x : V} {v : Value} (rx : RelV x v) (fx : flatV x = true) : ∀ {xs : List V} {us : List Value}, Vals xs us → xs.all flatV = true → ∀ u ∈ us, SeqAt.EqAt A s u v (eqU x u)
  | _, _, .nil, _ => fun u hu => by cases hu
  | y :: xs, u :: us, .cons r t, f => fun u' hu => by
    rw [List.all_cons, Bool.and_eq_true] at f
    rcases List.mem_cons.mp hu with rfl | hu
    · rw [eqU_of r f.1]; exact eqAt_V r rx f.1 fx
    · exact mem_eqAt rx fx t f.2 u' hu
def inV (x : V) (xs : List V) : Bool := xs.any fun y => eqV y x
/-- x in a list or tuple of flat items -/
def rIn (K : PySem.W.Frag) (neg : Bool) : R2 := fun x y H Q => ∃ p xs, y = .ref p ∧ (SqL K H p xs ∨ SqT K H p xs) ∧ flatV x = true ∧ xs.all flatV = true ∧ Q (.bl (if neg then !inV x xs else inV x xs)) H
theorem op_in_seq : OpR X (compareOp .In) (rIn X.K false) := by
  intro pins s σ H x y v u Q I rx ry h
  obtain ⟨p, xs, rfl, hq, fx, fs, q⟩ := h
  cases ry
  rcases hq with hq | hq
  · obtain ⟨its, r, pl, hz⟩ := I.list hq
    refine SeqAt.in_listAt (eqU x) pl.isList (fun w hw => mem_eqAt rx fx r fs w (by simpa using hw)) ⟨.bl _, H, I, rfl, ?_⟩
    rw [show its.toArray.any (eqU x) = its.any (eqU x) by simp, any_eqU r fs]
    exact q
  · obtain ⟨its, r, pl, hz⟩ := I.tuple hq
    refine SeqAt.in_tupleAt (eqU x) pl (fun w hw => mem_eqAt rx fx r fs w (by simpa using hw)) ⟨.bl _, H, I, rfl, ?_⟩
    rw [show its.toArray.any (eqU x) = its.any (eqU x) by simp, any_eqU r fs]
    exact q
theorem op_notIn_seq : OpR X (compareOp .NotIn) (rIn X.K true) := by
  intro pins s σ H x y v u Q I rx ry h
  obtain ⟨p, xs, rfl, hq, fx, fs, q⟩ := h
  cases ry
  rcases hq with hq | hq
  · obtain ⟨its, r, pl, hz⟩ := I.list hq
    refine SeqAt.notIn_listAt (eqU x) pl.isList (fun w hw => mem_eqAt rx fx r fs w (by simpa using hw)) ⟨.bl _, H, I, rfl, ?_⟩
    rw [show its.toArray.any (eqU x) = its.any (eqU x) by simp, any_eqU r fs]
    exact q
  · obtain ⟨its, r, pl, hz⟩ := I.tuple hq
    refine SeqAt.notIn_tupleAt (eqU x) pl (fun w hw => mem_eqAt rx fx r fs w (by simpa using hw)) ⟨.bl _, H, I, rfl, ?_⟩
    rw [show its.toArray.any (eqU x) = its.any (eqU x) by simp, any_eqU r fs]
    exact q
theorem op_notIn_str : OpR X (compareOp .NotIn) (fun x y H Q => ∃ i j, x = .str i ∧ y = .str j ∧ Q (.bl (!(!(Builtin.Str.occurrences j i 0 j.length 1).isEmpty))) H) := by
  intro pins s σ H x y v u Q I rx ry h
  obtain ⟨i, j, rfl, rfl, q⟩ := h
  obtain ⟨t, rfl⟩ := rx
  obtain ⟨t', rfl⟩ := ry
  exact notIn_str ⟨.bl _, H, I, rfl, q⟩

/-! ### len, list(x), tuple(x) of any list or tuple that is read -/
theorem call_len_seq : CallR X (.builtin "len") (fun xs H Q => ∃ p ys, xs = [.ref p] ∧ (SqL X.K H p ys ∨ SqT X.K H p ys) ∧ Q (.int ys.length) H) := by
  intro pins s σ H xs us Q I r h
  obtain ⟨p, ys, rfl, hq, q⟩ := h
  obtain ⟨u, rfl, rx⟩ := vals1 r
  cases rx
  have hn := line63
  rcases hq with hq | hq
  · obtain ⟨its, r', pl, hz⟩ := I.list hq
    have hlen := r'.length
    exact Calls.call_len_list pl.isList (by simp only [List.size_toArray] <;> omega) ⟨.int ys.length, H, I.tok _, ⟨s.toks + 1, by rw [List.size_toArray, hlen]⟩, q⟩
  · obtain ⟨its, r', pl, hz⟩ := I.tuple hq
    have hlen := r'.length
    exact len_tuple pl (by simp only [List.size_toArray] <;> omega) ⟨.int ys.length, H, I.tok _, ⟨s.toks + 1, by rw [List.size_toArray, hlen]⟩, q⟩
theorem call_len_str : CallR X (.builtin "len") (fun xs H Q => ∃ z, xs = [.str z] ∧ z.length ≤ sizeLine ∧ Q (.int z.length) H) := by
  intro pins s σ H xs us Q I r h
  obtain ⟨z, rfl, hz, q⟩ := h
  obtain ⟨u, rfl, t, rfl⟩ := vals1 r
  have hn := line63
  exact len_str (by omega) ⟨.int z.length, H, I.tok _, ⟨_, rfl⟩, q⟩
theorem CallR.or {f : Value} {r r' : List V → Hp → VK → Prop} (h : CallR X f r) (h' : CallR X f r') : CallR X f (fun xs H Q => r xs H Q ∨ r' xs H Q) := by
  intro pins s σ H xs us Q I rs q
  rcases q with q | q
  · exact h pins s σ H xs us Q I rs q
  · exact h' pins s σ H xs us Q I rs q
theorem call_list_of : CallR X (.type "list") (fun xs H Q => ∃ p ys, xs = [.ref p] ∧ (SqL X.K H p ys ∨ SqT X.K H p ys) ∧ ∀ l, H l = none → Q (.ref l) (upd H l (.lst ys))) := by
  intro pins s σ H xs us Q I r h
  obtain ⟨p, ys, rfl, hq, q⟩ := h
  obtain ⟨u, rfl, rx⟩ := vals1 r
  cases rx
  have fin : ∀ (its : List Value), Vals ys its → ys.length ≤ sizeLine → ∀ (h' : Heap) (c' : Nat), (∀ b o', s.heap.get? b = some o' → h'.get? b = some o') →
      h'.get? s.heap.objs.size = some { cls := .type "list", dict := none, data := .seq its.toArray c', slots := #[] } → EP X pins σ Q (.ref s.heap.objs.size) { s with heap := h' } := fun its r' hz h' c' kp e =>
    ⟨.ref s.heap.objs.size, _, I.laid (t' := s.toks) kp (Nat.le_refl _) (show ObjOk X.prog X.w _ h' _ (.lst ys) from ⟨hz, its, c', r', e⟩), rfl, q _ (I.hok.fresh (Nat.le_refl _))⟩
  rcases hq with hq | hq
  · obtain ⟨its, r', pl, hz⟩ := I.list hq
    have hlen := r'.length
    obtain ⟨o, ho, hc, n, hd⟩ := pl.isList
    exact call_list_seq p (.inl rfl) ho hc hd (fun h' c' kp e => fin its r' hz h' c' kp e) (by simp only [List.size_toArray] <;> omega)
  · obtain ⟨its, r', pl, hz⟩ := I.tuple hq
    have hlen := r'.length
    obtain ⟨o, ho, hc, n, hd⟩ := pl
    exact call_list_seq p (.inr rfl) ho hc hd (fun h' c' kp e => fin its r' hz h' c' kp e) (by simp only [List.size_toArray] <;> omega)
theorem call_tuple_of : CallR X (.type "tuple") (fun xs H Q => ∃ p ys, xs = [.ref p] ∧ ((SqL X.K H p ys ∧ ∀ l, H l = none → Q (.ref l) (upd H l (.tup ys))) ∨ (SqT X.K H p ys ∧ Q (.ref p) H))) := by
  intro pins s σ H xs us Q I r h
  obtain ⟨p, ys, rfl, h⟩ := h
  obtain ⟨u, rfl, rx⟩ := vals1 r
  cases rx
  rcases h with ⟨hq, q⟩ | ⟨hq, q⟩
  · obtain ⟨its, r', pl, hz⟩ := I.list hq
    have hlen := r'.length
    refine call_tuple_list pl.isList (fun h' kp => ?_) (by simp only [List.size_toArray] <;> omega)
    have I1 : Inv X pins σ H { s with heap := h' } := I.kept (t' := s.toks) kp
    have I2 : Inv X pins σ (upd H h'.objs.size (.tup ys)) { s with heap := h'.push { cls := .type "tuple", data := .seq its.toArray } } :=
      I1.laid (t' := s.toks) (fun b o e => Heap.get?_push_of_some _ e) (Nat.le_refl _) (show ObjOk X.prog X.w _ _ _ (.tup ys) from ⟨hz, its, r', IsTup.new _ _⟩)
    exact ⟨.ref h'.objs.size, _, I2, rfl, q _ (I1.hok.fresh (Nat.le_refl _))⟩
  · obtain ⟨its, r', pl, hz⟩ := I.tuple hq
    exact call_tuple_same pl ⟨.ref p, H, I, rfl, q⟩

/-! ### the call of a builtin's method: o.m(..) -/
/-- the value is of that builtin type -/
def tyV (K : PySem.W.Frag) (T : String) (x : V) (H : Hp) : Prop := match x with
  | .str _ => T = "str"
  | .int _ => T = "int"
  | .ref p => (T = "list" ∧ ∃ xs, SqL K H p xs) ∨ (T = "tuple" ∧ ∃ o, K.lookup p = some o ∧ o.cls = .type "tuple" ∧ o.dict = none) ∨
      (T = "dict" ∧ ((∃ kvs, H p = some (.dK kvs)) ∨ ∃ kvs, H p = some (.dT kvs))) ∨ (T = "set" ∧ ∃ S n, H p = some (.set S n))
  | _ => False
theorem tyV_is {pins : List (Addr × Obj)} {σ : St} {H : Hp} {s : Shared} {T : String} {x : V} {v : Value} (I : Inv X pins σ H s) (r : RelV x v) (ty : tyV X.K T x H) :
    s.TypeIs v T ∧ ∀ a, v = .ref a → ∃ ob, s.heap.get? a = some ob ∧ ob.dict = none := by
  cases x with
  | str z =>
    obtain ⟨t, rfl⟩ := r
    cases (show T = "str" from ty)
    exact ⟨typeIs_str s z t, fun _ e => nomatch e⟩
  | int i =>
    obtain ⟨t, rfl⟩ := r
    cases (show T = "int" from ty)
    exact ⟨typeIs_int s i t, fun _ e => nomatch e⟩
  | ref p =>
    cases r
    rcases ty with ⟨rfl, xs, hq⟩ | ⟨rfl, o, hk, hc, hd⟩ | ⟨rfl, hk⟩ | ⟨rfl, S, n, hk⟩
    · obtain ⟨its, _, pl, _⟩ := I.list hq
      refine ⟨pl.isList.typeIs, fun a e => ?_⟩
      cases e
      obtain ⟨o, n, e, c, hd, _⟩ := pl
      exact ⟨o, e, hd⟩
    · refine ⟨⟨o, I.kIn p o hk, hc⟩, fun a e => ?_⟩
      cases e
      exact ⟨o, I.kIn _ o hk, hd⟩
    · have z : ∃ o, s.heap.get? p = some o ∧ o.ExactDict := by
        rcases hk with ⟨kvs, hk⟩ | ⟨kvs, hk⟩
        · obtain ⟨_, _, _, _, o, _, _, e, ex, _⟩ := I.hok p _ hk
          exact ⟨o, e, ex⟩
        · obtain ⟨_, _, _, _, o, _, _, e, ex, _⟩ := I.hok p _ hk
          exact ⟨o, e, ex⟩
      obtain ⟨o, e, ex⟩ := z
      refine ⟨⟨o, e, ex.1⟩, fun a e2 => ?_⟩
      cases e2
      exact ⟨o, e, ex.2.1⟩
    · obtain ⟨o, _, _, _, e, ex, _⟩ := I.hok p _ hk
      refine ⟨⟨o, e, ex.1⟩, fun a e2 => ?_⟩
      cases e2
      exact ⟨o, e, ex.2.1⟩
  | _ => exact False.elim ty
def tBM0 (K : PySem.W.Frag) (T : String) (r : V → List V → Hp → VK → Prop) (to : TE) : TE := fun σ H Q => to σ H fun x H1 => tyV K T x H1 ∧ r x [] H1 Q
def tBM (K : PySem.W.Frag) (T : String) (r : V → List V → Hp → VK → Prop) (to : TE) (t : TA) : TE := fun σ H Q => to σ H fun x H1 => tyV K T x H1 ∧ t σ H1 fun xs H2 => r x xs H2 Q
variable {o e : Expr} {es : List Expr} {to : TE} {t : TA} {name : Str} {apos cpos : Pos} {T id : String} {r : V → List V → Hp → VK → Prop}
theorem pe_bm0 (pa : PlainAttrs T) (slot : Slot T name id) (hty : typeOf (.builtin id) = pure (.type "method_descriptor")) (hm : MtR X id r) (ho : PE X o to)
    (hbase : attributeBase o name X.env (eval o X.env) = eval o X.env := by rfl) (hline : (apos.endLine == cpos.line) = true := by rfl) : PE X (.Call (.Attribute o name apos) [] [] cpos) (tBM0 X.K T r to) := by
  intro pins s σ H Q I h
  refine wpAny_Call_method0_late hbase hline (thn (ho pins s σ H _ I h) fun v s1 ⟨x, H1, I1, r1, ty, q1⟩ => ?_)
  obtain ⟨h1, h2⟩ := tyV_is I1 r1 ty
  exact ⟨T, id, pa, slot, hty, h1, h2, Calls.callWith_builtin rfl (PySem.evalArgs_none (hm pins s1 σ H1 x [] v [] Q I1 r1 .nil q1))⟩
theorem pe_bm (pa : PlainAttrs T) (slot : Slot T name id) (hty : typeOf (.builtin id) = pure (.type "method_descriptor")) (hm : MtR X id r) (ho : PE X o to) (ha : PA X (e :: es) t)
    (hbase : attributeBase o name X.env (eval o X.env) = eval o X.env := by rfl)
    (hfew : ((backTo cpos (starEach (e :: es) X.env)).all (fun x => !x.1) && (backToKw cpos (keywordEach [] X.env)).all (fun x => x.1.isSome)
      && decide ((e :: es).length + ([] : List Keyword).length + (if ([] : List Keyword).isEmpty then 0 else 1) < 30)) = true := by rfl)
    (hline : (apos.endLine == cpos.line) = true := by rfl) (hs : starEach (e :: es) X.env = (false, eval e X.env) :: starEach es X.env := by rfl) (hplain : (backTo cpos (starEach es X.env)).any (·.1) = false := by rfl) :
    PE X (.Call (.Attribute o name apos) (e :: es) [] cpos) (tBM X.K T r to t) := by
  intro pins s σ H Q I h
  refine wpAny_Call_method_late hbase hfew hline rfl (thn (ho pins s σ H _ I h) fun v s1 ⟨x, H1, I1, r1, ty, q1⟩ => ?_)
  obtain ⟨h1, h2⟩ := tyV_is I1 r1 ty
  refine ⟨T, id, pa, slot, hty, h1, h2, ?_⟩
  have hA := ha cpos pins s1 σ H1 _ I1 q1
  rw [hs] at hA ⊢
  refine Calls.callWith_builtin (by show (false || (backTo cpos (starEach es X.env)).any (·.1)) = false; rw [hplain] <;> rfl) (Calls.evalArgs_plain ?_)
  exact thn hA fun us s2 ⟨vs, H2, I2, r2, q2⟩ => hm pins s2 σ H2 x vs v us Q I2 r1 r2 q2
/- xs.append(e), list.index on a module's tuple .. are MtR facts of 06m -/
end
end L2

namespace L2
open PySem PySem.Spec PyProof.Rows

def MtM (X : Cx) (id : String) (r : V → List V → Hp → VK → Prop) : Prop :=
  ∀ (pins : List (Addr × Obj)) (s : Shared) (σ : St) (H : Hp) (x : V) (xs : List V) (v : Value) (us : List Value) (Q : VK), Inv X pins σ H s → RelV x v → Vals xs us → r x xs H Q →
    wpAny (model X.prog X.w) X.A (call (.builtin id) (v :: us)) (EP X pins σ Q) X.xe s

/-! ### lists of values -/
theorem Vals.one : ∀ {x : V} {us : List Value}, Vals [x] us → ∃ u, us = [u] ∧ RelV x u
  | _, _, .cons r .nil => ⟨_, rfl, r⟩
theorem Vals.two : ∀ {x y : V} {us : List Value}, Vals [x, y] us → ∃ u v, us = [u, v] ∧ RelV x u ∧ RelV y v
  | _, _, _, .cons r (.cons q .nil) => ⟨_, _, rfl, r, q⟩
theorem Vals.zero : ∀ {us : List Value}, Vals [] us → us = []
  | _, .nil => rfl
theorem Vals.dropLast {xs : List V} {us : List Value} (h : Vals xs us) : Vals xs.dropLast us.dropLast := by
  induction h with
  | nil => exact .nil
  | cons r t ih =>
    cases t with
    | nil => exact .nil
    | cons q t' => exact .cons r ih
theorem Vals.eraseIdx : ∀ {xs : List V} {us : List Value} (i : Nat), Vals xs us → Vals (xs.eraseIdx i) (us.eraseIdx i)
  | _, _, _, .nil => .nil
  | _, _, 0, .cons _ t => t
  | _, _, i + 1, .cons r t => .cons r (Vals.eraseIdx i t)
theorem Vals.reverse {xs : List V} {us : List Value} (h : Vals xs us) : Vals xs.reverse us.reverse := by
  induction h with
  | nil => exact .nil
  | cons r t ih => rw [List.reverse_cons, List.reverse_cons]; exact Vals.append ih (.cons r .nil)
theorem Vals.rep {xs : List V} {us : List Value} (h : Vals xs us) : ∀ k : Nat, Vals (List.replicate k xs).flatten (List.replicate k us).flatten
  | 0 => .nil
  | k + 1 => by
    rw [List.replicate_succ, List.replicate_succ, List.flatten_cons, List.flatten_cons]
    exact Vals.append h (Vals.rep h k)
theorem erase_last {α : Type} (l : List α) : l.eraseIdx (l.length - 1) = l.dropLast := by
  induction l with
  | nil => rfl
  | cons a r ih =>
    cases r with
    | nil => rfl
    | cons b r =>
      have e : (a :: b :: r).length - 1 = ((b :: r).length - 1) + 1 := by
        have h1 : (a :: b :: r).length = r.length + 2 := rfl
        have h2 : (b :: r).length = r.length + 1 := rfl
        omega
      rw [e, List.eraseIdx_cons_succ, ih]
      all_goals rfl
theorem len_erase {α : Type} : ∀ (l : List α) (i : Nat), (l.eraseIdx i).length ≤ l.length
  | [], _ => Nat.le_refl _
  | _ :: _, 0 => Nat.le_succ _
  | _ :: r, i + 1 => Nat.succ_le_succ (len_erase r i)
theorem foldl_rep (its : List Value) : ∀ (k : Nat) (acc : List Value),
    List.foldl (fun x1 x2 => x1 ++ x2) acc.toArray (List.replicate k its.toArray) = (acc ++ (List.replicate k its).flatten).toArray
  | 0, acc => by simp
  | k + 1, acc => by
    have e : acc.toArray ++ its.toArray = (acc ++ its).toArray := by simp
    have e2 : (acc ++ its) ++ (List.replicate k its).flatten = acc ++ (List.replicate (k + 1) its).flatten := by
      rw [List.replicate_succ, List.flatten_cons, List.append_assoc]
    rw [← e2, ← foldl_rep its k (acc ++ its), ← e, List.replicate_succ, List.foldl_cons]

section
variable {X : Cx} {pins : List (Addr × Obj)} {σ : St} {H : Hp} {s : Shared} {l b : Addr} {xs ys zs : List V}

/-! ### the two steps: a tracked list is rewritten, a new list is laid -/
theorem Inv.lset {its its' : List Value} {n : Nat} {f : Array Value → Array Value} {t' : Nat} (I : Inv X pins σ H s) (hH : H l = some (.lst xs))
    (e : s.heap.get? l = some { cls := .type "list", data := .seq its.toArray n }) (hf : f its.toArray = its'.toArray) (hv : Vals ys its') (hz : ys.length ≤ sizeLine) :
    Inv X pins σ (upd H l (.lst ys)) { s with heap := s.heap.update l (Obj.mapSeq f), toks := t' } := by
  have q := PySem.IsL.update e f
  rw [hf] at q
  refine I.write (x := l) (e := l) (by rw [hH]; exact trivial) (.inl rfl) (fun b' u hb hu => (Heap.get?_update_other s.heap (Obj.mapSeq f) (Ne.symm hb)).trans hu) ⟨_, q⟩ ?_
  exact ⟨hz, its', _, hv, q⟩
theorem Inv.lnew {its : List Value} {t' : Nat} (I : Inv X pins σ H s) (hv : Vals ys its) (hz : ys.length ≤ sizeLine) :
    Inv X pins σ (upd H s.heap.objs.size (.lst ys)) { s with heap := s.heap.push { cls := .type "list", data := .seq its.toArray }, toks := t' } :=
  I.laid (fun _ _ q => Heap.get?_push_of_some _ q) (Nat.le_refl _) ⟨hz, its, 0, hv, Heap.get?_push_size _ rfl⟩
theorem Inv.fresh (I : Inv X pins σ H s) : H s.heap.objs.size = none := I.hok.fresh (Nat.le_refl _)
theorem Inv.lstM (I : Inv X pins σ H s) (hH : H l = some (.lst xs)) : xs.length ≤ sizeLine ∧ ∃ (its : List Value) (n : Nat), Vals xs its ∧ xs.length = its.length ∧ s.heap.get? l = some { cls := .type "list", data := .seq its.toArray n } := by
  obtain ⟨z, its, n, r, e⟩ := I.hok l _ hH
  exact ⟨z, its, n, r, r.length, e⟩

theorem notLongL {n : Nat} (h : n ≤ sizeLine) : Builtin.List.listTooLong n = false := by
  unfold Builtin.List.listTooLong
  exact decide_eq_false (by omega)
end

section
variable {X : Cx}

/-! ### methods -/
def rAppend : V → List V → Hp → VK → Prop := fun x vs H Q => ∃ l xs y, x = .ref l ∧ vs = [y] ∧ H l = some (.lst xs) ∧ xs.length < sizeLine ∧ Q .non (upd H l (.lst (xs ++ [y])))
theorem mt_append : MtM X "list.append" rAppend := by
  intro pins s σ H x vs v us Q I rx rv h
  obtain ⟨l, xs, y, rfl, rfl, hH, hz, q⟩ := h
  cases rx
  obtain ⟨u, rfl, ru⟩ := rv.one
  obtain ⟨z, its, n, r, hl, e⟩ := I.lstM hH
  refine call_meets F.slot_list_append ⟨_, e, rfl⟩ F.entry_list_append (F.args_list_append_2 _ _) (PySem.list_append l its.toArray n u (by rw [List.size_toArray]; omega)) ⟨e, ?_⟩
  refine ⟨.non, _, I.lset (its' := its ++ [u]) hH e (by simp) (r.append (.cons ru .nil)) ?_, rfl, q⟩
  rw [List.length_append, List.length_singleton]
  omega

def rExtend : V → List V → Hp → VK → Prop := fun x vs H Q => ∃ l b xs zs, x = .ref l ∧ vs = [.ref b] ∧ H l = some (.lst xs) ∧ H b = some (.lst zs) ∧ xs.length + zs.length ≤ sizeLine ∧ Q .non (upd H l (.lst (xs ++ zs)))
theorem mt_extend : MtM X "list.extend" rExtend := by
  intro pins s σ H x vs v us Q I rx rv h
  obtain ⟨l, b, xs, zs, rfl, rfl, hH, hB, hz, q⟩ := h
  cases rx
  obtain ⟨u, rfl, ru⟩ := rv.one
  cases ru
  obtain ⟨z, its, n, r, hl, e⟩ := I.lstM hH
  obtain ⟨z2, its2, n2, r2, hl2, e2⟩ := I.lstM hB
  have hsz : its.toArray.size + its2.toArray.size ≤ sizeLine := by rw [List.size_toArray, List.size_toArray]; omega
  have hlong : ¬ (!its.toArray.isEmpty && Builtin.List.listTooLong (its.toArray.size + its2.toArray.size)) = true := by
    rw [notLongL hsz, Bool.and_false]
    exact Bool.false_ne_true
  refine call_meets F.slot_list_extend ⟨_, e, rfl⟩ F.entry_list_extend (F.args_list_extend_2 _ _)
    (AutoSeq1.list_extend_list_list_0 l its.toArray n b its2.toArray n2 hlong (by rw [List.size_toArray]; omega) (by omega)) ⟨e, e2, ?_⟩
  refine ⟨.non, _, I.lset (its' := its ++ its2) hH e (by simp) (r.append r2) ?_, rfl, q⟩
  rw [List.length_append]
  omega

def rPop : V → List V → Hp → VK → Prop := fun x vs H Q => ∃ l xs y, x = .ref l ∧ vs = [] ∧ H l = some (.lst xs) ∧ xs[xs.length - 1]? = some y ∧ Q y (upd H l (.lst xs.dropLast))
theorem mt_pop : MtM X "list.pop" rPop := by
  intro pins s σ H x vs v us Q I rx rv h
  obtain ⟨l, xs, y, rfl, rfl, hH, hy, q⟩ := h
  cases rx
  have hus := rv.zero
  subst hus
  obtain ⟨z, its, n, r, hl, e⟩ := I.lstM hH
  obtain ⟨u, hu, ru⟩ := r.get hy
  have hy' : its.toArray[its.toArray.size - 1]? = some u := by
    show its.toArray[its.length - 1]? = some u
    rw [← Array.getElem?_toList, ← hl]
    exact hu
  refine call_meets F.slot_list_pop ⟨_, e, rfl⟩ F.entry_list_pop (F.args_list_pop_1 _) (MeetsSeq.list_pop_last l its.toArray n u hy' (by rw [List.size_toArray]; omega)) ⟨e, ?_⟩
  refine ⟨y, _, I.lset (its' := its.dropLast) hH e ?_ r.dropLast ?_, ru, q⟩
  · show its.toArray.eraseIdxIfInBounds (its.toArray.size - 1) = its.dropLast.toArray
    rw [List.size_toArray, List.eraseIdxIfInBounds_toArray, erase_last]
  · rw [List.length_dropLast]
    omega

def rPopAt : V → List V → Hp → VK → Prop := fun x vs H Q => ∃ l xs i k y, x = .ref l ∧ vs = [.int i] ∧ H l = some (.lst xs) ∧ -(2 ^ 63) ≤ i ∧ i < 2 ^ 63 ∧ seqIndex? i xs.length = some k ∧ xs[k]? = some y ∧ Q y (upd H l (.lst (xs.eraseIdx k)))
theorem mt_popAt : MtM X "list.pop" rPopAt := by
  intro pins s σ H x vs v us Q I rx rv h
  obtain ⟨l, xs, i, k, y, rfl, rfl, hH, h1, h2, hk, hy, q⟩ := h
  cases rx
  obtain ⟨u, rfl, ru⟩ := rv.one
  obtain ⟨t, rfl⟩ := ru
  obtain ⟨z, its, n, r, hl, e⟩ := I.lstM hH
  obtain ⟨w, hw, rw'⟩ := r.get hy
  refine call_meets F.slot_list_pop ⟨_, e, rfl⟩ F.entry_list_pop (F.args_list_pop_2 _ _)
    (MeetsSeq.list_pop_at l its.toArray n i t k w (fitsIndex_both h1 h2) (by rw [List.size_toArray, ← hl]; exact hk) (by rw [← Array.getElem?_toList]; exact hw) (by rw [List.size_toArray]; omega)) ⟨e, ?_⟩
  refine ⟨y, _, I.lset (its' := its.eraseIdx k) hH e ?_ (r.eraseIdx k) ?_, rw', q⟩
  · show its.toArray.eraseIdxIfInBounds k = (its.eraseIdx k).toArray
    rw [List.eraseIdxIfInBounds_toArray]
  · have := len_erase xs k
    omega

def rReverse : V → List V → Hp → VK → Prop := fun x vs H Q => ∃ l xs, x = .ref l ∧ vs = [] ∧ H l = some (.lst xs) ∧ Q .non (upd H l (.lst xs.reverse))
theorem mt_reverse : MtM X "list.reverse" rReverse := by
  intro pins s σ H x vs v us Q I rx rv h
  obtain ⟨l, xs, rfl, rfl, hH, q⟩ := h
  cases rx
  have hus := rv.zero
  subst hus
  obtain ⟨z, its, n, r, hl, e⟩ := I.lstM hH
  refine call_meets F.slot_list_reverse ⟨_, e, rfl⟩ F.entry_list_reverse (F.args_list_reverse_1 _) (AutoSeq1.list_reverse_list_0 l its.toArray n (by rw [List.size_toArray]; omega)) ⟨e, ?_⟩
  refine ⟨.non, _, I.lset (its' := its.reverse) hH e (by simp) r.reverse ?_, rfl, q⟩
  rw [List.length_reverse]
  omega

def rClear : V → List V → Hp → VK → Prop := fun x vs H Q => ∃ l xs, x = .ref l ∧ vs = [] ∧ H l = some (.lst xs) ∧ Q .non (upd H l (.lst []))
theorem mt_clear : MtM X "list.clear" rClear := by
  intro pins s σ H x vs v us Q I rx rv h
  obtain ⟨l, xs, rfl, rfl, hH, q⟩ := h
  cases rx
  have hus := rv.zero
  subst hus
  obtain ⟨z, its, n, r, hl, e⟩ := I.lstM hH
  refine call_meets F.slot_list_clear ⟨_, e, rfl⟩ F.entry_list_clear (F.args_list_clear_1 _) (AutoSeq1.list_clear_list_0 l its.toArray n (by rw [List.size_toArray]; omega)) ⟨e, ?_⟩
  exact ⟨.non, _, I.lset (its' := []) (ys := []) hH e rfl .nil (Nat.zero_le _), rfl, q⟩

/-! ### list + list, list += list, list * int -/
def rCat : R2 := fun x y H Q => ∃ l b xs zs, x = .ref l ∧ y = .ref b ∧ H l = some (.lst xs) ∧ H b = some (.lst zs) ∧ xs.length + zs.length ≤ sizeLine ∧ ∀ p, H p = none → Q (.ref p) (upd H p (.lst (xs ++ zs)))
theorem op_cat : OpR X (binaryOp .Add) rCat := by
  intro pins s σ H x y v u Q I rx ry h
  obtain ⟨l, b, xs, zs, rfl, rfl, hH, hB, hz, q⟩ := h
  cases rx
  cases ry
  obtain ⟨z, its, n, r, hl, e⟩ := I.lstM hH
  obtain ⟨z2, its2, n2, r2, hl2, e2⟩ := I.lstM hB
  refine PySem.P.add_list e e2 ?_ (by rw [List.size_toArray, List.size_toArray]; omega)
  have ea : its.toArray ++ its2.toArray = (its ++ its2).toArray := by simp
  rw [ea]
  exact ⟨.ref _, _, I.lnew (t' := s.toks) (r.append r2) (by rw [List.length_append]; omega), rfl, q _ I.fresh⟩
/-- a list times an int (a negative one is nothing) -/
def rRep : R2 := fun x y H Q => ∃ l k xs, x = .ref l ∧ y = .int k ∧ H l = some (.lst xs) ∧ -(2 ^ 63) ≤ k ∧ k < 2 ^ 63 ∧ xs.length * k.toNat ≤ sizeLine ∧
  ∀ p, H p = none → Q (.ref p) (upd H p (.lst (List.replicate k.toNat xs).flatten))
theorem len_rep {α : Type} (xs : List α) (k : Nat) : (List.replicate k xs).flatten.length = k * xs.length := by
  induction k with
  | zero => simp
  | succ k ih => rw [List.replicate_succ, List.flatten_cons, List.length_append, ih, Nat.succ_mul, Nat.add_comm]
theorem op_rep : OpR X (binaryOp .Mult) rRep := by
  intro pins s σ H x y v u Q I rx ry h
  obtain ⟨l, k, xs, rfl, rfl, hH, h1, h2, hz, q⟩ := h
  cases rx
  obtain ⟨t, rfl⟩ := ry
  obtain ⟨z, its, n, r, hl, e⟩ := I.lstM hH
  have hlen : its.toArray.size * k.toNat ≤ sizeLine := by rw [List.size_toArray, ← hl]; exact hz
  have hcap : ¬ its.toArray.size * k.toNat > (2 ^ 63 - 1) / 8 := by
    have : (sizeLine : Nat) ≤ (2 ^ 63 - 1) / 8 := by decide
    omega
  have hfit : ¬ (!Builtin.List.listFitsIndex k) = true := by
    rw [fitsIndex_both h1 h2]
    exact Bool.false_ne_true
  have hlong : ¬ Builtin.List.listTooLong (its.toArray.size * k.toNat) = true := by
    rw [notLongL hlen]
    exact Bool.false_ne_true
  have hnew : List.foldl (fun x1 x2 => x1 ++ x2) #[] (List.replicate (if its.toArray.isEmpty = true then 0 else k.toNat) its.toArray) = (List.replicate k.toNat its).flatten.toArray := by
    have f0 : ∀ m : Nat, List.foldl (fun x1 x2 => x1 ++ x2) #[] (List.replicate m its.toArray) = (List.replicate m its).flatten.toArray := fun m => by
      have := foldl_rep its m []
      rw [List.nil_append] at this
      exact this
    rw [f0]
    cases its with
    | nil => simp
    | cons a r' => rw [if_neg (by simp)]
  refine wpAny_binaryOp_repeat_ref (T := "list") (U := "int") (by decide) ⟨_, e, rfl⟩ (fun s' => typeIs_int s' k t) noFill_list_mul F.fills_int_mul F.slot_int_rmul repeat_list F.slot_int_index.lookup
    (call_meets F.slot_int_rmul (typeIs_int s k t) F.entry_int_rmul (F.args_int_rmul_2 _ _) (int___rmul___int_list k t l its.toArray n)
      ⟨e, rfl, ⟨_, e, rfl⟩, call_meets F.slot_list_mul ⟨_, e, rfl⟩ F.entry_list_mul (F.args_list_mul_2 _ _) (AutoListH.list___mul___list_int_3 l its.toArray n k t hfit hcap hlong) ⟨e, ?_⟩⟩)
  rw [hnew]
  exact ⟨.ref _, _, I.lnew (t' := s.toks) (r.rep k.toNat) (by rw [len_rep, Nat.mul_comm]; exact hz), rfl, q _ I.fresh⟩

/-! ### del xs[i] -/
theorem del_list {pins : List (Addr × Obj)} {s : Shared} {σ : St} {H : Hp} {l : Addr} {xs : List V} {i : Int} {t : Tok} {k : Nat} {Q : Unit → Shared → Prop} (I : Inv X pins σ H s) (hH : H l = some (.lst xs))
    (h1 : -(2 ^ 63) ≤ i) (h2 : i < 2 ^ 63) (hk : seqIndex? i xs.length = some k) (h : ∀ s', Inv X pins σ (upd H l (.lst (xs.eraseIdx k))) s' → Q () s') :
    wpAny (model X.prog X.w) X.A (delItem (.ref l) (.int i t)) Q X.xe s := by
  obtain ⟨z, its, n, r, hl, e⟩ := I.lstM hH
  refine PySem.P.delItem_list (k := k) e (fitsIndex_both h1 h2) (by rw [List.size_toArray, ← hl]; exact hk) (h _ ?_) (by rw [List.size_toArray]; omega)
  refine I.lset (its' := its.eraseIdx k) (t' := s.toks) hH e ?_ (r.eraseIdx k) ?_
  · show its.toArray.eraseIdxIfInBounds k = (its.eraseIdx k).toArray
    rw [List.eraseIdxIfInBounds_toArray]
  · have := len_erase xs k
    omega
end

/-! ### xs[a:b] = ys -/
section
variable {prog : Program} {w : World} {A : Around} {E : Value → Shared → Prop} {s : Shared}
theorem splice_eq (its its2 : List Value) (a c : Nat) : its.toArray.extract 0 a ++ its2.toArray ++ its.toArray.extract c its.toArray.size = (its.take a ++ its2 ++ its.drop c).toArray := by
  apply Array.toList_inj.mp
  first
    | (simp
       exact List.take_of_length_le (by simp))
    | simp [List.take_of_length_le]
    | simp
theorem bounds_run {a c n : Nat} (hac : a ≤ c) (hc : c ≤ n) : sliceBounds (some (a : Int)) (some (c : Int)) none n = ((a : Int), (c : Int), 1) := by
  simp only [sliceBounds, Option.getD_none]
  have h1 : ¬ ((a : Int) < 0) := by omega
  have h2 : ¬ ((c : Int) < 0) := by omega
  simp only [h1, h2, if_false, show (1 : Int) > 0 by decide, if_true]
  congr 1
  · omega
  · congr 1; omega
set_option maxRecDepth 100000 in
/-- list.__setitem__ with a slice of step one and another list -/
theorem setItem_slice {l b sl : Addr} {items new : Array Value} {n n2 : Nat} {vl vu : Value} {a c : Nat} {Q : Unit → Shared → Prop}
    (e : s.heap.get? l = some { cls := .type "list", data := .seq items n }) (e2 : s.heap.get? b = some { cls := .type "list", data := .seq new n2 }) (hne : l ≠ b)
    (hs : s.heap.IsSliceOf sl vl vu .none) (pl : IsPart vl (some (a : Int))) (pu : IsPart vu (some (c : Int))) (hac : a ≤ c) (hc : c ≤ items.size)
    (hsz : items.size + new.size ≤ sizeLine) (h : Q () { s with heap := s.heap.update l (Obj.mapSeq fun xs => xs.extract 0 a ++ new ++ xs.extract c xs.size) }) :
    wpAny (model prog w) A (setItem (.ref l) (.ref sl) (.ref b)) Q E s := by
  have hl : s.heap.IsList l items := PySem.IsL.isList e
  have hb : s.heap.IsList b new := PySem.IsL.isList e2
  obtain ⟨os, hos, hcs, hds⟩ := id hs
  have hTs : s.TypeIs (.ref sl) "slice" := ⟨os, hos, hcs⟩
  have hstep : ¬ ((rawPart none == rawInt 0) = true) := Bool.false_ne_true
  have hsame : Builtin.List.listSameRef (.ref l) (.ref b) = false := by
    unfold Builtin.List.listSameRef
    exact beq_eq_false_iff_ne.mpr hne
  have hmax : (max (a : Int) (c : Int)).toNat = c := by omega
  have hz' : ((fun xs : Array Value => xs.extract 0 a ++ new ++ xs.extract c xs.size) items).size ≤ sizeLine + 1 := by
    simp only [Array.size_append, Array.size_extract]
    omega
  unfold setItem
  try with_reducible refine wpAny_holding ?_
  first | refine wpAny_bind (wpAny_pure ?_) | skip
  refine wpAny_bind (wpAny_sequenceKey hl.typeIs (by decide) ?_)
  refine wpAny_bind (wpAny_callSpecial?_slot (name := Str.ofString "__setitem__") hl.typeIs slot_list_setitem
    (wpAny_call_entry slot_list_setitem hl.typeIs entry_list_setitem ?_ (args_list_setitem _ _ _)))
  show wpAny _ _ (Builtin.List.listSubscript? (.ref sl) >>= _) _ _ s
  refine wpAny_bind ?_
  unfold Builtin.List.listSubscript?
  refine wpAny_bind (wpAny_specialOf hTs slice_no_index ?_)
  simp only [Option.isNone_none, if_true]
  refine wpAny_pure ?_
  show wpAny _ _ (typeOf (.ref sl) >>= _) _ _ s
  refine wpAny_bind (wpAny_typeOf hTs ?_)
  first
    | rw [if_neg (by decide)]
    | refine PySem.W.KFB.if_not (by decide) ?_
  rw [listSliceParts_eq]
  refine wpAny_bind (wpAny_bind (wpAny_field hos hds (x := .none) rfl (wpAny_bind (wpAny_listPart .none ?_))))
  rw [if_neg hstep]
  refine wpAny_bind (wpAny_field hos hds (x := vl) rfl (wpAny_bind (wpAny_listPart pl ?_)))
  refine wpAny_bind (wpAny_field hos hds (x := vu) rfl (wpAny_bind (wpAny_listPart pu (wpAny_pure ?_))))
  first
    | simp only [hsame, Bool.false_eq_true, if_false]
    | refine PySem.W.KFB.if_not hsame ?_
    | (dsimp only
       rw [if_neg (by rw [hsame]; exact Bool.false_ne_true)])
  refine wpAny_bind (m := Builtin.List.listAllItems (.ref b) "must assign iterable to extended slice") ?_
  unfold Builtin.List.listAllItems
  refine wpAny_bind (wpAny_typeOf hb.typeIs ?_)
  first
    | refine PySem.W.KFB.if_so (by decide) ?_
    | rw [if_pos (by decide)]
    | simp only [beq_self_eq_true, Bool.true_or, if_true]
  unfold Builtin.List.listItems
  refine wpAny_bind (wpAny_seqItems e2 rfl (wpAny_pure ?_))
  refine wpAny_bind (wpAny_bind (wpAny_seqItems e rfl (wpAny_pure ?_)))
  refine wpAny_bind (wpAny_of_eq ((sliceIndices_raw (some (a : Int)) (some (c : Int)) none items.size (by simp)).trans (congrArg (pure : Int × Int × Int → Sem (Int × Int × Int)) (bounds_run hac hc))) ?_)
  show wpAny _ _ (if ((1 : Int) == 1) = true then _ else _) _ _ s
  rw [if_pos (by decide)]
  refine wpAny_bind (wpAny_rule ?_)
  first
    | simp only [notLongL hsz, Bool.false_eq_true, if_false]
    | refine PySem.W.KFB.if_not (notLongL hsz) ?_
  first | refine wpAny_bind (wpAny_pure ?_) | skip
  show wpAny _ _ (updateSeq l (fun xs => xs.extract 0 ((a : Int)).toNat ++ new ++ xs.extract (max (a : Int) (c : Int)).toNat xs.size) >>= _) _ _ s
  rw [hmax, Int.toNat_natCast]
  refine wpAny_bind (wpAny_updateSeq (hz := Nat.le_trans (Nat.le_add_right _ _) hsz) (_hz' := hz') e rfl ?_)
  refine wpAny_bind (wpAny_letGo ?_)
  first
    | exact wpAny_bind (wpAny_pure (wpAny_pure ⟨.none, rfl, wpAny_pure h⟩))
    | exact wpAny_pure ⟨.none, rfl, wpAny_pure h⟩
end

section
variable {X : Cx}
/-- xs[a:c] = ys of another list, at the value level: sl is the slice object that was just made -/
theorem set_slice {pins : List (Addr × Obj)} {s : Shared} {σ : St} {H : Hp} {l b sl : Addr} {xs ys : List V} {a c : Int} {vl vu : Value} {Q : Unit → Shared → Prop} (I : Inv X pins σ H s)
    (hH : H l = some (.lst xs)) (hB : H b = some (.lst ys)) (hne : l ≠ b) (hs : s.heap.IsSliceOf sl vl vu .none) (ra : RelV (.int a) vl) (rc : RelV (.int c) vu) (h0 : 0 ≤ a) (hac : a ≤ c) (hc : c ≤ xs.length)
    (hz : xs.length + ys.length ≤ sizeLine) (h : ∀ s', Inv X pins σ (upd H l (.lst (xs.take a.toNat ++ ys ++ xs.drop c.toNat))) s' → Q () s') :
    wpAny (model X.prog X.w) X.A (setItem (.ref l) (.ref sl) (.ref b)) Q X.xe s := by
  obtain ⟨ta, rfl⟩ := ra
  obtain ⟨tc, rfl⟩ := rc
  obtain ⟨z, its, n, r, hl, e⟩ := I.lstM hH
  obtain ⟨z2, its2, n2, r2, hl2, e2⟩ := I.lstM hB
  obtain ⟨a', rfl⟩ := Int.eq_ofNat_of_zero_le h0
  obtain ⟨c', rfl⟩ := Int.eq_ofNat_of_zero_le (Int.le_trans h0 hac)
  simp only [Int.toNat_natCast] at h
  refine setItem_slice (a := a') (c := c') e e2 hne hs (.int _ _) (.int _ _) (by omega) (by rw [List.size_toArray]; omega) (by rw [List.size_toArray, List.size_toArray]; omega) (h _ ?_)
  refine I.lset (its' := its.take a' ++ its2 ++ its.drop c') (t' := s.toks) hH e ?_ (Vals.append (Vals.append (r.take _) r2) (r.drop _)) ?_
  · exact splice_eq its its2 a' c'
  · rw [List.length_append, List.length_append, List.length_take, List.length_drop]
    omega
end
end L2

namespace L2
open PySem PySem.Spec PyProof.Rows

/-! ### lists of pairs as tables -/
section
variable {κ : Type} [DecidableEq κ]
def valV (kvs : List (κ × V)) (k : κ) : Option V := (kvs.find? fun kv => decide (kv.1 = k)).map (·.2)
/-- in its place, or at the end -/
def putK (kvs : List (κ × V)) (k : κ) (v : V) : List (κ × V) :=
  if (kvs.any fun kv => decide (kv.1 = k)) = true then kvs.map (fun kv => if kv.1 = k then (kv.1, v) else kv) else kvs ++ [(k, v)]
def dropK (kvs : List (κ × V)) (k : κ) : List (κ × V) := kvs.filter fun kv => decide (kv.1 ≠ k)

theorem valV_nil {k : κ} : valV ([] : List (κ × V)) k = none := rfl
theorem valV_pos {p : κ × V} {r : List (κ × V)} {k : κ} (e : p.1 = k) : valV (p :: r) k = some p.2 := by simp [valV, List.find?_cons, e]
theorem valV_neg {p : κ × V} {r : List (κ × V)} {k : κ} (e : ¬ p.1 = k) : valV (p :: r) k = valV r k := by simp [valV, List.find?_cons, e]
theorem valV_any (k : κ) : ∀ kvs : List (κ × V), (kvs.any fun kv => decide (kv.1 = k)) = (valV kvs k).isSome
  | [] => rfl
  | p :: r => by
    rw [List.any_cons]
    by_cases e : p.1 = k
    · simp only [valV_pos e, decide_eq_true e, Bool.true_or, Option.isSome_some]
    · rw [valV_neg e, decide_eq_false e, Bool.false_or]; exact valV_any k r
theorem valV_map (k j : κ) (y : V) : ∀ kvs : List (κ × V), valV (kvs.map fun kv => if kv.1 = k then (kv.1, y) else kv) j = (valV kvs j).map fun x => if j = k then y else x
  | [] => rfl
  | p :: r => by
    have ih := valV_map k j y r
    rw [List.map_cons]
    by_cases h : p.1 = k
    · rw [if_pos h]
      by_cases e : p.1 = j
      · rw [valV_pos (p := (p.1, y)) e, valV_pos e, Option.map_some, if_pos (e.symm.trans h)]
      · rw [valV_neg (p := (p.1, y)) e, valV_neg e, ih]
    · rw [if_neg h]
      by_cases e : p.1 = j
      · rw [valV_pos (p := p) e, valV_pos e, Option.map_some, if_neg (fun z => h (e.trans z))]
      · rw [valV_neg (p := p) e, valV_neg e, ih]
theorem valV_snoc (k j : κ) (y : V) : ∀ kvs : List (κ × V), valV kvs k = none → valV (kvs ++ [(k, y)]) j = if j = k then some y else valV kvs j
  | [], _ => by
    by_cases e : k = j
    · rw [if_pos e.symm]; exact valV_pos (p := (k, y)) e
    · rw [if_neg (fun z => e z.symm)]; exact valV_neg (p := (k, y)) e
  | p :: r, hn => by
    rw [List.cons_append]
    have hk : ¬ p.1 = k := fun z => by rw [valV_pos z] at hn; cases hn
    rw [valV_neg hk] at hn
    have ih := valV_snoc k j y r hn
    by_cases e : p.1 = j
    · rw [valV_pos e, valV_pos e, if_neg (fun z => hk (e.trans z))]
    · rw [valV_neg e, valV_neg e, ih]
theorem valV_put (kvs : List (κ × V)) (k j : κ) (y : V) : valV (putK kvs k y) j = if j = k then some y else valV kvs j := by
  unfold putK
  by_cases a : (kvs.any fun kv => decide (kv.1 = k)) = true
  · rw [if_pos a, valV_map]
    rw [valV_any] at a
    by_cases e : j = k
    · obtain ⟨x, hx⟩ := Option.isSome_iff_exists.mp a
      rw [if_pos e, e, hx, Option.map_some, if_pos rfl]
    · rw [if_neg e]
      cases valV kvs j with
      | none => rfl
      | some x => rw [Option.map_some, if_neg e]
  · rw [if_neg a]
    refine valV_snoc k j y kvs ?_
    rw [valV_any] at a
    cases q : valV kvs k with
    | none => rfl
    | some x => rw [q] at a; exact (a rfl).elim
theorem length_putK (kvs : List (κ × V)) (k : κ) (v : V) : (putK kvs k v).length ≤ kvs.length + 1 := by
  unfold putK
  split
  · rw [List.length_map]; omega
  · rw [List.length_append, List.length_cons, List.length_nil]; omega
theorem putK_new {kvs : List (κ × V)} {k : κ} (v : V) (h : valV kvs k = none) : putK kvs k v = kvs ++ [(k, v)] := by
  unfold putK
  rw [valV_any, h]
  exact if_neg (by decide)

theorem RelO.isSome_eq {o : Option V} {u : Option Value} (r : RelO o u) : o.isSome = u.isSome := by
  cases o with
  | none => cases u with
    | none => rfl
    | some _ => exact (show False from r).elim
  | some _ => cases u with
    | none => exact (show False from r).elim
    | some _ => rfl
theorem RelO.getD {o : Option V} {u : Option Value} {d : V} {d' : Value} (r : RelO o u) (rd : RelV d d') : RelV (o.getD d) (u.getD d') := by
  cases o with
  | none => cases u with
    | none => exact rd
    | some _ => exact (show False from r).elim
  | some _ => cases u with
    | none => exact (show False from r).elim
    | some _ => exact r

/-- raw tables of the same keys -/
theorem KV.val {kvs : List (κ × V)} {vs : List (κ × Value)} (r : KV kvs vs) (k : κ) : RelO (valV kvs k) (valueAt vs k) := by
  unfold KV at r
  induction r with
  | nil => exact True.intro
  | @cons p q ps qs h t ih =>
    obtain ⟨h1, h2⟩ := h
    by_cases e : p.1 = k
    · have e' : q.1 = k := h1.symm.trans e
      have b : valueAt (q :: qs) k = some q.2 := by simp [valueAt, List.find?_cons, e']
      rw [valV_pos e, b]; exact h2
    · have e' : ¬ q.1 = k := fun z => e (h1.trans z)
      have b : valueAt (q :: qs) k = valueAt qs k := by simp [valueAt, List.find?_cons, e']
      rw [valV_neg e, b]; exact ih
theorem KV.any {kvs : List (κ × V)} {vs : List (κ × Value)} (r : KV kvs vs) (k : κ) : (kvs.any fun kv => decide (kv.1 = k)) = vs.any fun kv => decide (kv.1 = k) := by
  unfold KV at r
  induction r with
  | nil => rfl
  | cons h t ih => rw [List.any_cons, List.any_cons, ih, h.1]
theorem KV.repl {kvs : List (κ × V)} {vs : List (κ × Value)} (r : KV kvs vs) (k : κ) {y : V} {u : Value} (ry : RelV y u) :
    KV (kvs.map fun kv => if kv.1 = k then (kv.1, y) else kv) (vs.map fun kv => if kv.1 = k then (kv.1, u) else kv) := by
  unfold KV at r ⊢
  induction r with
  | nil => exact .nil
  | @cons p q ps qs h t ih =>
    rw [List.map_cons, List.map_cons]
    refine .cons ?_ ih
    obtain ⟨h1, h2⟩ := h
    by_cases e : p.1 = k
    · rw [if_pos e, if_pos (h1.symm.trans e)]; exact ⟨h1, ry⟩
    · rw [if_neg e, if_neg (fun z => e (h1.trans z))]; exact ⟨h1, h2⟩
theorem KV.put {kvs : List (κ × V)} {vs : List (κ × Value)} (r : KV kvs vs) (k : κ) {y : V} {u : Value} (ry : RelV y u) : KV (putK kvs k y) (stored vs k u) := by
  unfold putK stored
  rw [r.any k]
  by_cases e : (vs.any fun kv => decide (kv.1 = k)) = true
  · rw [if_pos e, if_pos e]; exact r.repl k ry
  · rw [if_neg e, if_neg e]; exact Paired.snoc r ⟨rfl, ry⟩
theorem KV.drop {kvs : List (κ × V)} {vs : List (κ × Value)} (r : KV kvs vs) (k : κ) : KV (dropK kvs k) (without vs k) := by
  unfold KV at r ⊢
  unfold dropK without
  induction r with
  | nil => exact .nil
  | @cons p q ps qs h t ih =>
    obtain ⟨h1, h2⟩ := h
    rw [List.filter_cons, List.filter_cons]
    by_cases e : p.1 = k
    · have a : ¬ decide (p.1 ≠ k) = true := by simp [e]
      have b : ¬ decide (q.1 ≠ k) = true := by simp [h1.symm.trans e]
      rw [if_neg a, if_neg b]; exact ih
    · have e' : ¬ q.1 = k := fun z => e (h1.trans z)
      have a : decide (p.1 ≠ k) = true := by simp [e]
      have b : decide (q.1 ≠ k) = true := by simp [e']
      rw [if_pos a, if_pos b]; exact .cons ⟨h1, h2⟩ ih
theorem KV.keys {kvs : List (κ × V)} {vs : List (κ × Value)} (r : KV kvs vs) : kvs.map (·.1) = vs.map (·.1) := by
  unfold KV at r
  induction r with
  | nil => rfl
  | cons h t ih => rw [List.map_cons, List.map_cons, ih, h.1]
theorem KV.length {kvs : List (κ × V)} {vs : List (κ × Value)} (r : KV kvs vs) : kvs.length = vs.length := Paired.length r
theorem dropK_le (kvs : List (κ × V)) (k : κ) : (dropK kvs k).length ≤ kvs.length := List.length_filter_le _ _
end


/-! ### a tracked dict, its keys ints and texts or tuples of these -/
theorem kV_is {P : Program} {w : World} {k : Key} {u : Value} (r : RelV (kV k) u) : (mixKind P w).is k u = true := by
  cases k with
  | inl i => obtain ⟨t, e⟩ := (show ∃ t, u = Value.int i t from r); subst e; exact mixKind_int P w i t
  | inr x => obtain ⟨t, e⟩ := (show ∃ t, u = Value.str x t from r); subst e; exact mixKind_str P w x t
theorem kV_inj {a b : Key} (e : kV a = kV b) : a = b := by
  cases a with
  | inl i => cases b with
    | inl j => have e' : V.int i = V.int j := e; injection e' with e'; rw [e']
    | inr y => exact nomatch (show V.int i = V.str y from e)
  | inr x => cases b with
    | inl j => exact nomatch (show V.str x = V.int j from e)
    | inr y => have e' : V.str x = V.str y := e; injection e' with e'; rw [e']
theorem kVs_inj : ∀ {a b : List Key}, a.map kV = b.map kV → a = b
  | [], [], _ => rfl
  | [], _ :: _, e => by simp at e
  | _ :: _, [], e => by simp at e
  | x :: xs, y :: ys, e => by
    rw [List.map_cons, List.map_cons] at e
    injection e with e1 e2
    rw [kV_inj e1, kVs_inj e2]
theorem items_are {P : Program} {w : World} : ∀ {ks : List Key} {us : List Value}, Vals (ks.map kV) us → ItemsAre (mixKind P w) ks us
  | [], _, r => by rw [List.map_nil] at r; cases r; exact .nil
  | k :: ks, _, r => by
    rw [List.map_cons] at r
    cases r with
    | cons h t => exact .cons (kV_is h) (items_are t)

/-- raw entries of a dict with tuple keys -/
abbrev KT (H : Hp) : List (List Key × V) → List (List Key × Addr × Value) → Prop := Paired fun p q => p.1 = q.1 ∧ H q.2.1 = some (.tup (p.1.map kV)) ∧ RelV p.2 q.2.2
theorem KT.val {H : Hp} {kvs : List (List Key × V)} {xs : List (List Key × Addr × Value)} (r : KT H kvs xs) (k : List Key) : RelO (valV kvs k) ((atKey xs k).map (·.2)) := by
  induction r with
  | nil => exact True.intro
  | @cons p q ps qs h t ih =>
    obtain ⟨h1, _, h2⟩ := h
    by_cases e : p.1 = k
    · have e' : q.1 = k := h1.symm.trans e
      have b : atKey (q :: qs) k = some q.2 := by simp [atKey, List.find?_cons, e']
      rw [valV_pos e, b]; exact h2
    · have e' : ¬ q.1 = k := fun z => e (h1.trans z)
      have b : atKey (q :: qs) k = atKey qs k := by simp [atKey, List.find?_cons, e']
      rw [valV_neg e, b]; exact ih
theorem KT.repl {H : Hp} {kvs : List (List Key × V)} {xs : List (List Key × Addr × Value)} (r : KT H kvs xs) (k : List Key) {y : V} {u : Value} (ry : RelV y u) :
    KT H (kvs.map fun kv => if kv.1 = k then (kv.1, y) else kv) (xs.map (putAt k u)) := by
  induction r with
  | nil => exact .nil
  | @cons p q ps qs h t ih =>
    rw [List.map_cons, List.map_cons]
    refine .cons ?_ ih
    obtain ⟨h1, h2, h3⟩ := h
    unfold putAt
    by_cases e : p.1 = k
    · rw [if_pos e, if_pos (h1.symm.trans e)]; exact ⟨h1, h2, ry⟩
    · rw [if_neg e, if_neg (fun z => e (h1.trans z))]; exact ⟨h1, h2, h3⟩
theorem KT.put {H : Hp} {kvs : List (List Key × V)} {xs : List (List Key × Addr × Value)} (r : KT H kvs xs) (k : List Key) {b : Addr} {y : V} {u : Value} (hb : H b = some (.tup (k.map kV))) (ry : RelV y u) :
    KT H (putK kvs k y) (storedH xs k b u) := by
  have e : (kvs.any fun kv => decide (kv.1 = k)) = (atKey xs k).isSome := by
    rw [valV_any, (r.val k).isSome_eq, Option.isSome_map]
  unfold putK storedH
  rw [e]
  by_cases q : (atKey xs k).isSome = true
  · rw [if_pos q, if_pos q]; exact r.repl k ry
  · rw [if_neg q, if_neg q]; exact Paired.snoc r ⟨rfl, hb, ry⟩
theorem KT.keeps {H H' : Hp} {kvs : List (List Key × V)} {xs : List (List Key × Addr × Value)} (r : KT H kvs xs) (ht : ∀ b ys, H b = some (.tup ys) → H' b = some (.tup ys)) : KT H' kvs xs :=
  Paired.mapP r fun _ _ z => ⟨z.1, ht _ _ z.2.1, z.2.2⟩

section
variable {P : Program} {w : World} {H : Hp} {h : Heap} {a : Addr}
theorem rd_of {u : HO} (ok : HOk P w H h) (e : Rd H a u) : ObjOk P w H h a u := e.ok ok
theorem dk_rd {kvs : List (Key × V)} (ok : HOk P w H h) (e : Rd H a (.dK kvs)) : kvs.length ≤ sizeLine ∧ (a == sysModules) = false ∧ ∃ vs, KV kvs vs ∧ h.DictOf (mixKind P w) a vs :=
  show ObjOk P w H h a (.dK kvs) from rd_of ok e
theorem dk_of {kvs : List (Key × V)} (ok : HOk P w H h) (e : H a = some (.dK kvs)) : kvs.length ≤ sizeLine ∧ (a == sysModules) = false ∧ ∃ vs, KV kvs vs ∧ h.DictOf (mixKind P w) a vs := dk_rd ok (.inl e)
/-- a tracked tuple of ints and texts is a key -/
theorem key_of {ks : List Key} (ok : HOk P w H h) (e : H a = some (.tup (ks.map kV))) : (tupleKind (mixKind P w)).is h ks a := by
  obtain ⟨_, its, r, o, h1, h2, n, h3⟩ := (show ObjOk P w H h a (.tup (ks.map kV)) from ok a _ e)
  exact ⟨o, its.toArray, n, h1, h2, h3, by simpa using items_are r⟩
theorem dt_rd {kvs : List (List Key × V)} (ok : HOk P w H h) (e : Rd H a (.dT kvs)) : kvs.length ≤ sizeLine ∧ (a == sysModules) = false ∧
    ∃ xs, KT H kvs xs ∧ h.DictOfH (tupleKind (mixKind P w)) a xs := by
  obtain ⟨z, y, xs, r, o, es, ep, h1, h2, h3, h4, h5⟩ := (show ObjOk P w H h a (.dT kvs) from rd_of ok e)
  refine ⟨z, y, xs, r, o, es, ep, h1, h2, h3, h4, fun x hx => ?_, h5⟩
  have all : ∀ {l : List (List Key × V)} {m : List (List Key × Addr × Value)}, KT H l m → ∀ x ∈ m, (tupleKind (mixKind P w)).is h x.1 x.2.1 := by
    intro l m q
    induction q with
    | nil => intro x hx; exact nomatch hx
    | @cons p q ps qs hq t ih =>
      intro x hx
      rcases List.mem_cons.mp hx with e | hx
      · subst e
        exact key_of ok (by rw [← hq.1]; exact hq.2.1)
      · exact ih x hx
  exact all r x hx
theorem dt_of {kvs : List (List Key × V)} (ok : HOk P w H h) (e : H a = some (.dT kvs)) : kvs.length ≤ sizeLine ∧ (a == sysModules) = false ∧
    ∃ xs, KT H kvs xs ∧ h.DictOfH (tupleKind (mixKind P w)) a xs := dt_rd ok (.inl e)
end

/-- what the dict at a holds at the key y -/
def DGet (H : Hp) (a : Addr) (y : V) (r : Option V) : Prop :=
  (∃ kvs k, Rd H a (.dK kvs) ∧ y = kV k ∧ r = valV kvs k) ∨ ∃ kvs k b, Rd H a (.dT kvs) ∧ y = .ref b ∧ H b = some (.tup (k.map kV)) ∧ r = valV kvs k
/-- the heap behind a[y] = v -/
def DPut (H : Hp) (a : Addr) (y v : V) (H' : Hp) : Prop :=
  (∃ kvs k, H a = some (.dK kvs) ∧ y = kV k ∧ kvs.length < sizeLine ∧ H' = upd H a (.dK (putK kvs k v))) ∨
  ∃ kvs k b, H a = some (.dT kvs) ∧ y = .ref b ∧ H b = some (.tup (k.map kV)) ∧ kvs.length < sizeLine ∧ H' = upd H a (.dT (putK kvs k v))
theorem DGet.k {H : Hp} {a : Addr} {kvs : List (Key × V)} {k : Key} (e : H a = some (.dK kvs)) : DGet H a (kV k) (valV kvs k) := .inl ⟨kvs, k, .inl e, rfl, rfl⟩
theorem DGet.t {H : Hp} {a b : Addr} {kvs : List (List Key × V)} {k : List Key} (e : H a = some (.dT kvs)) (eb : H b = some (.tup (k.map kV))) : DGet H a (.ref b) (valV kvs k) := .inr ⟨kvs, k, b, .inl e, rfl, eb, rfl⟩
theorem DPut.k {H : Hp} {a : Addr} {kvs : List (Key × V)} {k : Key} {v : V} (e : H a = some (.dK kvs)) (hl : kvs.length < sizeLine) : DPut H a (kV k) v (upd H a (.dK (putK kvs k v))) := .inl ⟨kvs, k, e, rfl, hl, rfl⟩
theorem DPut.t {H : Hp} {a b : Addr} {kvs : List (List Key × V)} {k : List Key} {v : V} (e : H a = some (.dT kvs)) (eb : H b = some (.tup (k.map kV))) (hl : kvs.length < sizeLine) :
    DPut H a (.ref b) v (upd H a (.dT (putK kvs k v))) := .inr ⟨kvs, k, b, e, rfl, eb, hl, rfl⟩


section
variable {X : Cx} {pins : List (Addr × Obj)} {σ : St} {H : Hp} {s : Shared} {a : Addr} {y v : V} {u r : Value} {o : Option V} {A : Around} {E : Value → Shared → Prop}

theorem Inv.big (I : Inv X pins σ H s) : sysModules < s.heap.objs.size := by
  have h : mainGlobals < s.heap.objs.size := (I.mod.glob.keeps I.bk).lt
  exact Nat.lt_trans (by decide) h

/-- d[y], there -/
theorem d_getItem {Q : Value → Shared → Prop} (hu : A.units + 1 < cLine) (I : Inv X pins σ H s) (g : DGet H a y (some v)) (ry : RelV y u) (h : ∀ w' s', Inv X pins σ H s' → RelV v w' → Q w' s') :
    wpAny (model X.prog X.w) A (getItem (.ref a) u) Q E s := by
  rcases g with ⟨kvs, k, e, ey, l⟩ | ⟨kvs, k, b, e, ey, eb, l⟩
  · subst ey
    obtain ⟨z, hd, vs, rel, dd⟩ := dk_rd I.hok e
    obtain ⟨w', hw, rw'⟩ := RelO.some_of (v := v) (o := valueAt vs k) (by rw [l]; exact rel.val k)
    exact wpAny_getItem_of (kV_is ry) dd.mapOf hw (h w' _ (I.tok _) rw')
  · subst ey
    cases (show u = Value.ref b from ry)
    obtain ⟨z, hd, xs, rel, dd⟩ := dt_rd I.hok e
    obtain ⟨w', hw, rw'⟩ := RelO.some_of (v := v) (o := (atKey xs k).map (·.2)) (by rw [l]; exact rel.val k)
    obtain ⟨p, hp, hp2⟩ := Option.map_eq_some_iff.mp hw
    refine wpAny_getItem_heap (tupleKind_room_in1 hu) (key_of I.hok eb) dd hp ?_
    rw [hp2]
    exact h w' _ (I.tok _) rw'
/-- y in d -/
theorem d_in {Q : Value → Shared → Prop} (hu : A.units + 1 < cLine) (I : Inv X pins σ H s) (g : DGet H a y o) (ry : RelV y u) (h : ∀ s', Inv X pins σ H s' → Q (.bool o.isSome) s') :
    wpAny (model X.prog X.w) A (compareOp .In u (.ref a)) Q E s := by
  rcases g with ⟨kvs, k, e, ey, l⟩ | ⟨kvs, k, b, e, ey, eb, l⟩
  · subst ey
    obtain ⟨z, hd, vs, rel, dd⟩ := dk_rd I.hok e
    refine wpAny_in_of (kV_is ry) hd dd.mapOf ?_
    rw [← (rel.val k).isSome_eq, ← l]
    exact h _ (I.tok _)
  · subst ey
    cases (show u = Value.ref b from ry)
    obtain ⟨z, hd, xs, rel, dd⟩ := dt_rd I.hok e
    refine wpAny_in_heap (tupleKind_room_in1 hu) (key_of I.hok eb) hd dd ?_
    have q := (rel.val k).isSome_eq
    rw [Option.isSome_map] at q
    rw [← q, ← l]
    exact h _ (I.tok _)
theorem d_notIn {Q : Value → Shared → Prop} (hu : A.units + 1 < cLine) (I : Inv X pins σ H s) (g : DGet H a y o) (ry : RelV y u) (h : ∀ s', Inv X pins σ H s' → Q (.bool (!o.isSome)) s') :
    wpAny (model X.prog X.w) A (compareOp .NotIn u (.ref a)) Q E s := by
  rcases g with ⟨kvs, k, e, ey, l⟩ | ⟨kvs, k, b, e, ey, eb, l⟩
  · subst ey
    obtain ⟨z, hd, vs, rel, dd⟩ := dk_rd I.hok e
    refine wpAny_notIn_of (kV_is ry) hd dd.mapOf ?_
    rw [← (rel.val k).isSome_eq, ← l]
    exact h _ (I.tok _)
  · subst ey
    cases (show u = Value.ref b from ry)
    obtain ⟨z, hd, xs, rel, dd⟩ := dt_rd I.hok e
    refine wpAny_notIn_heap (tupleKind_room_in1 hu) (key_of I.hok eb) hd dd ?_
    have q := (rel.val k).isSome_eq
    rw [Option.isSome_map] at q
    rw [← q, ← l]
    exact h _ (I.tok _)
/-- a dict's object is replaced -/
theorem d_write {h' : Heap} {t' : Nat} {ob : HO} (I : Inv X pins σ H s) (mu : Mut (H a)) (hs : Heap.SameBut a s.heap h') (he : ∃ q, h'.get? a = some q) (new : ObjOk X.prog X.w (upd H a ob) h' a ob) :
    Inv X pins σ (upd H a ob) { s with heap := h', toks := t' } :=
  I.write (x := a) (e := a) mu (.inl rfl) (fun b q hb z => (hs.2 b hb).trans z) he new
theorem dk_new {P : Program} {w : World} {H' : Hp} {h' : Heap} {kvs : List (Key × V)} {vs : List (Key × Value)} (z : kvs.length ≤ sizeLine) (hd : (a == sysModules) = false) (rel : KV kvs vs) (dd : h'.DictOf (mixKind P w) a vs) :
    ObjOk P w H' h' a (.dK kvs) := ⟨z, hd, vs, rel, dd⟩
/-- d[y] = v -/
theorem d_setItem {H' : Hp} {Q : Unit → Shared → Prop} (hu : A.units + 1 < cLine) (I : Inv X pins σ H s) (g : DPut H a y v H') (ry : RelV y u) (rv : RelV v r) (h : ∀ s', Inv X pins σ H' s' → Q () s') :
    wpAny (model X.prog X.w) A (setItem (.ref a) u r) Q E s := by
  rcases g with ⟨kvs, k, e, ey, l, eH⟩ | ⟨kvs, k, b, e, ey, eb, l, eH⟩
  · subst ey eH
    obtain ⟨z, hd, vs, rel, dd⟩ := dk_of I.hok e
    have hz : vs.length ≤ sizeLine := by rw [← rel.length]; exact z
    have hl : (putK kvs k v).length ≤ sizeLine := by have := length_putK kvs k v; omega
    refine wpAny_setItem_pairs (hsz := hz) (kV_is ry) dd fun h' dd' hs => h _ ?_
    have he : ∃ q, h'.get? a = some q := let ⟨q, _, _, hq, _⟩ := dd'; ⟨q, hq⟩
    exact d_write I (by rw [e]; exact True.intro) hs he (dk_new hl hd (rel.put k rv) dd')
  · subst ey eH
    cases (show u = Value.ref b from ry)
    obtain ⟨z, hd, xs, rel, dd⟩ := dt_of I.hok e
    have hz : xs.length ≤ sizeLine := by rw [← Paired.length rel]; exact z
    have hl : (putK kvs k v).length ≤ sizeLine := by have := length_putK kvs k v; omega
    refine wpAny_setItem_heap (hsz := hz) (tupleKind_room_in1 hu) (key_of I.hok eb) dd fun h' dd' hs => h _ ?_
    obtain ⟨q, es, ep, hq, h2, h3, h4, _, h5⟩ := dd'
    refine d_write I (by rw [e]; exact True.intro) hs ⟨q, hq⟩ ⟨hl, hd, _, (rel.put k eb rv).keeps fun c ys ec => ?_, q, es, ep, hq, h2, h3, h4, h5⟩
    rw [upd_ne (ne_of ec e (fun z => nomatch z))]
    exact ec
end

section
variable {X : Cx} {pins : List (Addr × Obj)} {σ : St} {H : Hp} {s : Shared} {a : Addr} {kvs : List (Key × V)} {k : Key} {u : Value} {A : Around} {E : Value → Shared → Prop}
/-- del d[k] -/
theorem d_delItem {Q : Unit → Shared → Prop} (I : Inv X pins σ H s) (e : H a = some (.dK kvs)) (ry : RelV (kV k) u) (l : (valV kvs k).isSome = true) (h : ∀ s', Inv X pins σ (upd H a (.dK (dropK kvs k))) s' → Q () s') :
    wpAny (model X.prog X.w) A (delItem (.ref a) u) Q E s := by
  obtain ⟨z, hd, vs, rel, dd⟩ := dk_of I.hok e
  refine wpAny_delItem_slot dd.typeIs (by decide) PySem.F.slot_dict_delitem
    (call_meetsIn PySem.F.slot_dict_delitem dd.typeIs PySem.F.entry_dict_delitem (PySem.F.args_dict_delitem_2 _ _) (meets_dict_delitem_pairs (mixKind X.prog X.w) a (kV_is ry)) ⟨vs, dd, by rw [← rel.length]; exact z, by rw [← (rel.val k).isSome_eq]; exact l, fun h' dd' hs => h _ ?_⟩)
  have he : ∃ q, h'.get? a = some q := let ⟨q, _, _, hq, _⟩ := dd'; ⟨q, hq⟩
  exact d_write I (by rw [e]; exact True.intro) hs he (dk_new (Nat.le_trans (dropK_le kvs k) z) hd (rel.drop k) dd')
/-- d.pop(k[, x]), there -/
theorem d_pop {v : V} {more : List Value} {Q : Value → Shared → Prop} (I : Inv X pins σ H s) (e : H a = some (.dK kvs)) (ry : RelV (kV k) u) (l : valV kvs k = some v) (hm : more = [] ∨ ∃ x, more = [x])
    (h : ∀ w' s', Inv X pins σ (upd H a (.dK (dropK kvs k))) s' → RelV v w' → Q w' s') : wpAny (model X.prog X.w) A (call (.builtin "dict.pop") (.ref a :: u :: more)) Q E s := by
  obtain ⟨z, hd, vs, rel, dd⟩ := dk_of I.hok e
  obtain ⟨w', hw, rw'⟩ := RelO.some_of (v := v) (o := valueAt vs k) (by rw [← l]; exact rel.val k)
  have hp : (keyPart u).isSome = true := by
    cases k with
    | inl i => obtain ⟨t, q⟩ := (show ∃ t, u = Value.int i t from ry); subst q; rfl
    | inr x => obtain ⟨t, q⟩ := (show ∃ t, u = Value.str x t from ry); subst q; rfl
  have ha : argsOk "dict.pop" ⟨.ref a :: u :: more, []⟩ := by
    rcases hm with q | ⟨x, q⟩
    · subst q; exact PySem.F.args_dict_pop_2 _ _
    · subst q; exact PySem.F.args_dict_pop_3 _ _ _
  refine call_meetsIn PySem.F.slot_dict_pop dd.typeIs PySem.F.entry_dict_pop ha (meets_dict_pop_there (mixKind X.prog X.w) a (kV_is ry) more hm hp)
    ⟨vs, w', dd, by rw [← rel.length]; exact z, hw, fun h' dd' hs => h w' _ ?_ rw'⟩
  have he : ∃ q, h'.get? a = some q := let ⟨q, _, _, hq, _⟩ := dd'; ⟨q, hq⟩
  exact d_write I (by rw [e]; exact True.intro) hs he (dk_new (Nat.le_trans (dropK_le kvs k) z) hd (rel.drop k) dd')
/-- d.pop(k, x), not there -/
theorem d_popD {r : Value} {Q : Value → Shared → Prop} (I : Inv X pins σ H s) (e : H a = some (.dK kvs)) (ry : RelV (kV k) u) (l : valV kvs k = none) (h : ∀ s', Inv X pins σ H s' → Q r s') :
    wpAny (model X.prog X.w) A (call (.builtin "dict.pop") [.ref a, u, r]) Q E s := by
  obtain ⟨z, hd, vs, rel, dd⟩ := dk_of I.hok e
  have hn : valueAt vs k = none := RelO.none_of (by rw [← l]; exact rel.val k)
  have hp : (keyPart u).isSome = true := by
    cases k with
    | inl i => obtain ⟨t, q⟩ := (show ∃ t, u = Value.int i t from ry); subst q; rfl
    | inr x => obtain ⟨t, q⟩ := (show ∃ t, u = Value.str x t from ry); subst q; rfl
  exact call_meetsIn PySem.F.slot_dict_pop dd.typeIs PySem.F.entry_dict_pop (PySem.F.args_dict_pop_3 _ _ _) (meets_dict_pop_default (mixKind X.prog X.w) a (kV_is ry) hd hp r) ⟨vs, dd, hn, h _ (I.tok _)⟩
/-- d.clear() -/
theorem d_clear {Q : Value → Shared → Prop} (I : Inv X pins σ H s) (e : H a = some (.dK kvs)) (h : ∀ s', Inv X pins σ (upd H a (.dK [])) s' → Q .none s') : wpAny (model X.prog X.w) A (call (.builtin "dict.clear") [.ref a]) Q E s := by
  obtain ⟨z, hd, vs, rel, dd⟩ := dk_of I.hok e
  refine call_meetsIn PySem.F.slot_dict_clear dd.typeIs PySem.F.entry_dict_clear (PySem.F.args_dict_clear_1 _) (meets_dict_clear (mixKind X.prog X.w) a) ⟨vs, dd, by rw [← rel.length]; exact z, fun h' dd' hs => h _ ?_⟩
  have he : ∃ q, h'.get? a = some q := let ⟨q, _, _, hq, _⟩ := dd'; ⟨q, hq⟩
  exact d_write (t' := s.toks) I (by rw [e]; exact True.intro) hs he (dk_new (Nat.zero_le _) hd .nil dd')
/-- len(d) -/
theorem d_len {Q : Value → Shared → Prop} (I : Inv X pins σ H s) (e : Rd H a (.dK kvs)) (h : ∀ t s', Inv X pins σ H s' → Q (.int kvs.length t) s') : wpAny (model X.prog X.w) A (call (.builtin "len") [.ref a]) Q E s := by
  obtain ⟨z, hd, vs, rel, dd⟩ := dk_rd I.hok e
  refine call_len_dict hd dd (by rw [← rel.length]; rw [sizeLine_eq] at z; omega) ?_
  rw [← rel.length]
  exact h _ _ (I.tok _)
/-- if d -/
theorem d_truth {Q : Bool → Shared → Prop} (I : Inv X pins σ H s) (e : Rd H a (.dK kvs)) (h : ∀ s', Inv X pins σ H s' → Q (!kvs.isEmpty) s') : wpAny (model X.prog X.w) A (truthy (.ref a)) Q E s := by
  obtain ⟨z, hd, vs, rel, dd⟩ := dk_rd I.hok e
  refine wpAny_truthy_dict hd dd (by rw [← rel.length]; rw [sizeLine_eq] at z; omega) ?_
  have q : kvs.isEmpty = vs.isEmpty := by cases rel <;> rfl
  rw [← q]
  exact h _ (I.tok _)
end


/-! ### readings and rules -/
/-- the element of a subscription, not a slice -/
def NoSl (i : Expr) : Prop := ∀ ov iv, subscripted i false ov iv = operate [ov, iv] (getItem ov iv)
theorem subD_of {prog : Program} {w : World} {A : Around} {E : Value → Shared → Prop} {s : Shared} {env : Env} {value slice : Expr} {pos : Pos} {T id : String} {Q : Value → Shared → Prop}
    (hl : typeLookup (.type T) "__getitem__" = pure (some (.builtin id))) (hs : NoSl slice)
    (h : wpAny (model prog w) A (eval value env) (fun o s₁ => wpAny (model prog w) A (eval slice env) (fun i s₂ => s₂.TypeIs o T ∧ wpAny (model prog w) A (getItem o i) Q E s₂) E s₁) E s) :
    wpAny (model prog w) A (eval (.Subscript value slice pos) env) Q E s := by
  refine Subscript_ (wpAny_mono h (fun o s₁ h₁ => wpAny_mono h₁ (fun i s₂ h₂ => ?_) fun _ _ x => x) fun _ _ x => x)
  obtain ⟨hT, h₂⟩ := h₂
  unfold subscriptTail
  refine wpAny_bind ?_
  rw [getitemInPython_of_ne hT.not_modules]
  refine wpAny_bind (wpAny_specialOf hT hl ?_)
  have fin : wpAny (model prog w) A (subscripted slice false o i) (fun r s₃ => wpAny (model prog w) A (letTemporaryGo value o r >>= fun _ => pure r) Q E s₃) E s₂ := by
    rw [hs o i]
    exact wpAny_operating (wpAny_mono h₂ (fun r s₃ h₃ => wpAny_bind (wpAny_letTemporaryGo (wpAny_pure h₃))) fun _ _ x => x)
  first
    | exact wpAny_pure (wpAny_bind fin)
    | exact wpAny_bind (wpAny_pure (wpAny_bind fin))
    | exact wpAny_bind fin

theorem dict_typeIs {X : Cx} {pins : List (Addr × Obj)} {σ : St} {H : Hp} {s : Shared} {a : Addr} {y : V} {o : Option V} (I : Inv X pins σ H s) (g : DGet H a y o) : s.TypeIs (.ref a) "dict" := by
  rcases g with ⟨kvs, k, e, _, _⟩ | ⟨kvs, k, b, e, _, _, _⟩
  · obtain ⟨_, _, vs, _, dd⟩ := dk_rd I.hok e
    exact dd.typeIs
  · obtain ⟨_, _, xs, _, dd⟩ := dt_rd I.hok e
    exact dd.typeIs
theorem dict_noDict {X : Cx} {pins : List (Addr × Obj)} {σ : St} {H : Hp} {s : Shared} {a : Addr} {y : V} {o : Option V} (I : Inv X pins σ H s) (g : DGet H a y o) :
    ∀ b, Value.ref a = .ref b → ∃ ob, s.heap.get? b = some ob ∧ ob.dict = none := fun b q => by
  cases q
  rcases g with ⟨kvs, k, e, _, _⟩ | ⟨kvs, k, b, e, _, _, _⟩
  · obtain ⟨_, _, vs, _, ob, _, _, h1, h2, _⟩ := dk_rd I.hok e
    exact ⟨ob, h1, h2.2.1⟩
  · obtain ⟨_, _, xs, _, ob, _, _, h1, h2, _⟩ := dt_rd I.hok e
    exact ⟨ob, h1, h2.2.1⟩

/-- d[y] -/
def tDGet (td ty : TE) : TE := fun σ H Q => td σ H fun x H1 => ty σ H1 fun y H2 => ∃ a v, x = .ref a ∧ DGet H2 a y (some v) ∧ Q v H2
/-- y in d, y not in d -/
def tDIn (ty td : TE) : TE := fun σ H Q => ty σ H fun y H1 => td σ H1 fun x H2 => ∃ a o, x = .ref a ∧ DGet H2 a y o ∧ Q (.bl o.isSome) H2
def tDNotIn (ty td : TE) : TE := fun σ H Q => ty σ H fun y H1 => td σ H1 fun x H2 => ∃ a o, x = .ref a ∧ DGet H2 a y o ∧ Q (.bl (!o.isSome)) H2
/-- d[y] = v -/
def sDPut (td ty tv : TE) : TS := fun D σ H => tv σ H fun v H1 => td σ H1 fun x H2 => ty σ H2 fun y H3 => ∃ a H4, x = .ref a ∧ DPut H3 a y v H4 ∧ D.nx σ H4
/-- d[y] op= v -/
def sDAug (td ty tv : TE) (rd : V → V → Hp → VK → Prop) : TS := fun D σ H => td σ H fun x H1 => ty σ H1 fun y H2 => ∃ a v, x = .ref a ∧ DGet H2 a y (some v) ∧
  tv σ H2 fun y2 H3 => rd v y2 H3 fun z H4 => ∃ H5, DPut H4 a y z H5 ∧ D.nx σ H5
/-- del d[y] -/
def sDDel (td ty : TE) : TS := fun D σ H => td σ H fun x H1 => ty σ H1 fun y H2 => ∃ a kvs k, x = .ref a ∧ H2 a = some (.dK kvs) ∧ y = kV k ∧ (valV kvs k).isSome = true ∧ D.nx σ (upd H2 a (.dK (dropK kvs k)))

section
variable {X : Cx} {o i e value : Expr} {pos pos' tpos : Pos} {td ty tv : TE}
theorem pe_dget (hu : X.A.units + 1 < cLine) (ho : PE X o td) (hi : PE X i ty) (hs : NoSl i) : PE X (.Subscript o i pos) (tDGet td ty) := by
  intro pins s σ H Q I h
  refine subD_of PySem.F.slot_dict_getitem.lookup hs (thn (ho pins s σ H _ I h) fun u s1 ⟨x, H1, I1, rx, q1⟩ => thn (hi pins s1 σ H1 _ I1 q1) fun iv s2 ⟨y, H2, I2, ry, a, v, ex, g, q2⟩ => ?_)
  subst ex
  obtain rfl : u = Value.ref a := rx
  exact ⟨dict_typeIs I2 g, d_getItem hu I2 g ry fun w' s3 I3 rw' => ⟨v, H2, I3, rw', q2⟩⟩
theorem pc_din (hu : X.A.units + 1 < cLine) (hi : PE X i ty) (ho : PE X o td) : PC X .In i o (tDIn ty td) := by
  intro pins s σ H Q I h
  refine thn (hi pins s σ H _ I h) fun iv s1 ⟨y, H1, I1, ry, q1⟩ => thn (ho pins s1 σ H1 _ I1 q1) fun u s2 ⟨x, H2, I2, rx, a, ov, ex, g, q2⟩ => ?_
  subst ex
  obtain rfl : u = Value.ref a := rx
  exact d_in hu I2 g ry fun s3 I3 => ⟨.bl ov.isSome, H2, I3, rfl, q2⟩
theorem pc_dnotin (hu : X.A.units + 1 < cLine) (hi : PE X i ty) (ho : PE X o td) : PC X .NotIn i o (tDNotIn ty td) := by
  intro pins s σ H Q I h
  refine thn (hi pins s σ H _ I h) fun iv s1 ⟨y, H1, I1, ry, q1⟩ => thn (ho pins s1 σ H1 _ I1 q1) fun u s2 ⟨x, H2, I2, rx, a, ov, ex, g, q2⟩ => ?_
  subst ex
  obtain rfl : u = Value.ref a := rx
  exact d_notIn hu I2 g ry fun s3 I3 => ⟨.bl (!ov.isSome), H2, I3, rfl, q2⟩
theorem ps_dput (hu : X.A.units + 1 < cLine) (ho : PE X o td) (hi : PE X i ty) (hv : PE X value tv) (hs : swapsWith value (some (.Subscript o i pos')) pos.line X.env = pure false) :
    PS X (.Assign [.Subscript o i pos'] value pos) (sDPut td ty tv) := by
  intro pins s σ H D I h
  refine wpAny_Assign_Subscript (thn (hv pins s σ H _ I h) fun r s1 ⟨v, H1, I1, rv, q1⟩ => thn (ho pins s1 σ H1 _ I1 q1) fun u s2 ⟨x, H2, I2, rx, q2⟩ => thn (hi pins s2 σ H2 _ I2 q2) fun iv s3 ⟨y, H3, I3, ry, a, H4, ex, g, q3⟩ => ?_) hs
  subst ex
  obtain rfl : u = Value.ref a := rx
  exact d_setItem hu I3 g ry rv fun s4 I4 => ⟨σ, H4, I4, q3⟩
theorem ps_daug {op : Operator} {rd : V → V → Hp → VK → Prop} (hu : X.A.units + 1 < cLine) (ho : PE X o td) (hi : PE X i ty) (hv : PE X value tv) (hop : InOp X op rd)
    (ha : ∀ ov iv new, augStore i ov iv new = (do holding [new, ov, iv] (setItem ov iv new); release [new, ov, iv] []; pure .next)) : PS X (.AugAssign (.Subscript o i tpos) op value pos) (sDAug td ty tv rd) := by
  intro pins s σ H D I h
  refine wpAny_AugAssign_SubscriptAny (thn (ho pins s σ H _ I h) fun u s1 ⟨x, H1, I1, rx, q1⟩ => thn (hi pins s1 σ H1 _ I1 q1) fun iv s2 ⟨y, H2, I2, ry, a, v, ex, g, q2⟩ => ?_) ha
  subst ex
  obtain rfl : u = Value.ref a := rx
  refine d_getItem hu I2 g ry fun w' s3 I3 rw' => thn (hv pins s3 σ H2 _ I3 q2) fun w2 s4 ⟨y2, H3, I4, ry2, q3⟩ => thn (hop pins s4 σ H3 v y2 w' w2 _ I4 rw' ry2 q3) fun w3 s5 ⟨z, H4, I5, rz, H5, g5, q4⟩ => ?_
  exact d_setItem hu I5 g5 ry rz fun s6 I6 => ⟨σ, H5, I6, q4⟩
theorem ps_ddel (ho : PE X o td) (hi : PE X i ty) : PS X (.Delete [.Subscript o i tpos] pos) (sDDel td ty) := by
  intro pins s σ H D I h
  refine wpAny_Delete (wpAny_deleteEach_cons (wpAny_delete_Subscript (thn (ho pins s σ H _ I h) fun u s1 ⟨x, H1, I1, rx, q1⟩ => thn (hi pins s1 σ H1 _ I1 q1) fun iv s2 ⟨y, H2, I2, ry, a, kvs, k, ex, e, ey, l, q2⟩ => ?_)))
  subst ex ey
  obtain rfl : u = Value.ref a := rx
  exact d_delItem I2 e ry l fun s3 I3 => wpAny_deleteEach_nil ⟨σ, _, I3, q2⟩
end


/-! ### displays -/
theorem dk_empty {P : Program} {w : World} {H : Hp} (h : Heap) (hb : sysModules < h.objs.size) : ObjOk P w H (h.push { cls := .type "dict", data := .dict #[] }) h.objs.size (.dK []) :=
  ⟨Nat.zero_le _, beq_eq_false_iff_ne.mpr (Ne.symm (Nat.ne_of_lt hb)), [], .nil, Heap.DictOf.new h⟩
theorem dt_empty {P : Program} {w : World} {H : Hp} (h : Heap) (hb : sysModules < h.objs.size) : ObjOk P w H (h.push { cls := .type "dict", data := .dict #[] }) h.objs.size (.dT []) :=
  ⟨Nat.zero_le _, beq_eq_false_iff_ne.mpr (Ne.symm (Nat.ne_of_lt hb)), [], .nil, _, #[], 0, Heap.get?_push_size _ rfl, ⟨rfl, rfl, rfl⟩, rfl, rfl, List.nodup_nil⟩
/-- {}, to be a dict of the kind that is wanted -/
def tDNewK : TE := fun _ H Q => ∀ p, H p = none → Q (.ref p) (upd H p (.dK []))
def tDNewT : TE := fun _ H Q => ∀ p, H p = none → Q (.ref p) (upd H p (.dT []))
section
variable {X : Cx} {pos : Pos}
theorem pe_dnewK : PE X (.Dict [] [] pos) tDNewK := fun pins s σ H Q I h =>
  wpAny_Dict_empty ⟨.ref s.heap.objs.size, _, I.laid (a := s.heap.objs.size) (o := .dK []) (t' := s.toks) (fun _ _ q => Heap.get?_push_of_some _ q) (Nat.le_refl _) (dk_empty s.heap I.big), rfl, h _ (I.hok.fresh (Nat.le_refl _))⟩
theorem pe_dnewT : PE X (.Dict [] [] pos) tDNewT := fun pins s σ H Q I h =>
  wpAny_Dict_empty ⟨.ref s.heap.objs.size, _, I.laid (a := s.heap.objs.size) (o := .dT []) (t' := s.toks) (fun _ _ q => Heap.get?_push_of_some _ q) (Nat.le_refl _) (dt_empty s.heap I.big), rfl, h _ (I.hok.fresh (Nat.le_refl _))⟩
end

/-- the pairs of a display, from the left -/
def tPairs : List (TE × TE) → St → Hp → (List (V × V) → Hp → Prop) → Prop
  | [], _, H, Q => Q [] H
  | (tk, tv) :: r, σ, H, Q => tk σ H fun x H1 => tv σ H1 fun y H2 => tPairs r σ H2 fun ps H3 => Q ((x, y) :: ps) H3
abbrev VV : List (V × V) → List (Value × Value) → Prop := Paired fun p q => RelV p.1 q.1 ∧ RelV p.2 q.2
def PPs (X : Cx) (pos : Pos) (keys : List (Option Expr)) (values : List Expr) (trs : List (TE × TE)) : Prop :=
  ∀ (pins : List (Addr × Obj)) (s : Shared) (σ : St) (H : Hp) (Q : List (V × V) → Hp → Prop), Inv X pins σ H s → tPairs trs σ H Q →
    wpAny (model X.prog X.w) X.A (evalPairs (pairTrees keys values X.env pos)) (fun vs s' => ∃ ps H', Inv X pins σ H' s' ∧ VV ps vs ∧ Q ps H') X.xe s
theorem pps_nil {X : Cx} {pos : Pos} : PPs X pos [] [] [] := fun pins s σ H Q I h => pairTrees_nil_walk ⟨[], H, I, .nil, h⟩
theorem pps_cons {X : Cx} {pos : Pos} {k v : Expr} {ks : List (Option Expr)} {vs : List Expr} {tk tv : TE} {trs : List (TE × TE)} (hk : PE X k tk) (hv : PE X v tv) (hr : PPs X pos ks vs trs) :
    PPs X pos (some k :: ks) (v :: vs) ((tk, tv) :: trs) := fun pins s σ H Q I h =>
  pairTrees_cons_walk (thn (hk pins s σ H _ I h) fun u s1 ⟨x, H1, I1, rx, q1⟩ => thn (hv pins s1 σ H1 _ I1 q1) fun w2 s2 ⟨y, H2, I2, ry, q2⟩ =>
    thn (hr pins s2 σ H2 _ I2 q2) fun ws s3 ⟨ps, H3, I3, rel, q3⟩ => ⟨(x, y) :: ps, H3, I3, .cons ⟨rx, ry⟩ rel, q3⟩)

def mergeK (kvs more : List (Key × V)) : List (Key × V) := more.foldl (fun acc kv => putK acc kv.1 kv.2) kvs
theorem KV.merge : ∀ {more : List (Key × V)} {rs : List (Key × Value)} {kvs : List (Key × V)} {vs : List (Key × Value)}, KV more rs → KV kvs vs → KV (mergeK kvs more) (merged vs rs) := by
  intro more rs kvs vs r
  unfold KV at r
  induction r generalizing kvs vs with
  | nil => intro q; exact q
  | @cons p q ps qs h t ih =>
    intro r0
    have e : KV (putK kvs p.1 p.2) (stored vs q.1 q.2) := by
      have := r0.put p.1 h.2
      rw [← h.1]; exact this
    exact ih e
theorem length_mergeK : ∀ (more kvs : List (Key × V)), (mergeK kvs more).length ≤ kvs.length + more.length
  | [], kvs => by show kvs.length ≤ kvs.length + 0; omega
  | p :: r, kvs => by
    have h1 := length_mergeK r (putK kvs p.1 p.2)
    have h2 := length_putK kvs p.1 p.2
    show (mergeK (putK kvs p.1 p.2) r).length ≤ _
    rw [List.length_cons]; omega
theorem carries_of {P : Program} {w : World} : ∀ {kvs : List (Key × V)} {ws : List (Value × Value)}, VV (kvs.map fun kv => (kV kv.1, kv.2)) ws → ∃ rs, Carries (mixKind P w) ws rs ∧ KV kvs rs
  | [], _, r => by rw [List.map_nil] at r; cases r; exact ⟨[], True.intro, .nil⟩
  | p :: kvs, _, r => by
    rw [List.map_cons] at r
    cases r with
    | @cons a b as bs h t =>
      obtain ⟨rs, c, q⟩ := carries_of (P := P) (w := w) t
      obtain ⟨b1, b2⟩ := b
      exact ⟨(p.1, b2) :: rs, ⟨kV_is h.1, rfl, c⟩, .cons ⟨rfl, h.2⟩ q⟩
/-- {k: v, ..} with keys ints and texts; the new dict stands empty while the pairs are made -/
def tDisp (trs : List (TE × TE)) : TE := fun σ H Q => ∀ p, H p = none → tPairs trs σ (upd H p (.dK [])) fun ps H2 => H2 p = some (.dK []) ∧ ∃ kvs : List (Key × V), ps = kvs.map (fun kv => (kV kv.1, kv.2)) ∧ kvs.length ≤ 15 ∧ Q (.ref p) (upd H2 p (.dK (mergeK [] kvs)))
theorem pe_disp {X : Cx} {pos : Pos} {keys : List (Option Expr)} {values : List Expr} {trs : List (TE × TE)} (h : PPs X pos keys values trs) (hall : keys.all (·.isSome) = true) (hl : keys.length = values.length) (h0 : keys ≠ [])
    (h15 : keys.length ≤ 15) : PE X (.Dict keys values pos) (tDisp trs) := by
  intro pins s σ H Q I q
  have hn := I.hok.fresh (Nat.le_refl s.heap.objs.size)
  have I1 := I.laid (a := s.heap.objs.size) (o := .dK []) (h' := s.heap.push { cls := .type "dict", data := .dict #[] }) (t' := s.toks) (fun _ _ q => Heap.get?_push_of_some _ q) (Nat.le_refl _) (dk_empty s.heap I.big)
  refine wpAny_Dict_walk (knd := mixKind X.prog X.w) hall hl h0 h15 (thn (h pins _ σ _ _ I1 (q _ hn)) fun ws s2 ⟨ps, H2, I2, rel, e, kvs, ep, lk, q2⟩ => ?_)
  subst ep
  obtain ⟨rs, c, rk⟩ := carries_of (P := X.prog) (w := X.w) rel
  obtain ⟨z, hd, vs0, r0, dd⟩ := dk_of I2.hok e
  cases r0
  refine ⟨rs, c, dd, fun h' dd' hs => ⟨.ref s.heap.objs.size, _, ?_, rfl, q2⟩⟩
  have hz : (mergeK [] kvs).length ≤ sizeLine := by
    have h1 := length_mergeK kvs []
    rw [List.length_nil] at h1
    rw [sizeLine_eq]; omega
  have he : ∃ q, h'.get? s.heap.objs.size = some q := let ⟨q, _, _, hq, _⟩ := dd'; ⟨q, hq⟩
  exact d_write I2 (by rw [e]; exact True.intro) hs he (dk_new hz hd (rk.merge .nil) dd')


/-! ### methods -/
/-- a method call o.m(e) of a built-in, with one argument: what must be seen of the text -/
structure M1 (X : Cx) (o : Expr) (m : Str) (apos : Pos) (e : Expr) (cpos : Pos) : Prop where
  base : attributeBase o m X.env (eval o X.env) = eval o X.env
  few : ((backTo cpos (starEach [e] X.env)).all (fun x => !x.1) && (backToKw cpos (keywordEach [] X.env)).all (fun x => x.1.isSome)
    && decide (([e] : List Expr).length + ([] : List Keyword).length + (if ([] : List Keyword).isEmpty then 0 else 1) < 30)) = true
  line : (apos.endLine == cpos.line) = true
  trees : backTo cpos (starEach [e] X.env) = [(false, eval e X.env)]
structure M2 (X : Cx) (o : Expr) (m : Str) (apos : Pos) (e f : Expr) (cpos : Pos) : Prop where
  base : attributeBase o m X.env (eval o X.env) = eval o X.env
  few : ((backTo cpos (starEach [e, f] X.env)).all (fun x => !x.1) && (backToKw cpos (keywordEach [] X.env)).all (fun x => x.1.isSome)
    && decide (([e, f] : List Expr).length + ([] : List Keyword).length + (if ([] : List Keyword).isEmpty then 0 else 1) < 30)) = true
  line : (apos.endLine == cpos.line) = true
  trees : backTo cpos (starEach [e, f] X.env) = [(false, eval e X.env), (false, eval f X.env)]

/-- a is a dict, whatever its keys -/
def IsD (H : Hp) (a : Addr) : Prop := (∃ kvs, Rd H a (.dK kvs)) ∨ ∃ kvs, Rd H a (.dT kvs)
theorem isD_at {X : Cx} {pins : List (Addr × Obj)} {σ : St} {H : Hp} {s : Shared} {a : Addr} (I : Inv X pins σ H s) (d : IsD H a) :
    s.TypeIs (.ref a) "dict" ∧ (∀ b, Value.ref a = .ref b → ∃ ob, s.heap.get? b = some ob ∧ ob.dict = none) ∧ (a == sysModules) = false := by
  rcases d with ⟨kvs, e⟩ | ⟨kvs, e⟩
  · obtain ⟨_, hd, vs, _, dd⟩ := dk_rd I.hok e
    refine ⟨dd.typeIs, fun b q => ?_, hd⟩
    cases q
    obtain ⟨ob, _, _, h1, h2, _⟩ := dd
    exact ⟨ob, h1, h2.2.1⟩
  · obtain ⟨_, hd, xs, _, dd⟩ := dt_rd I.hok e
    refine ⟨dd.typeIs, fun b q => ?_, hd⟩
    cases q
    obtain ⟨ob, _, _, h1, h2, _⟩ := dd
    exact ⟨ob, h1, h2.2.1⟩

section
variable {X : Cx} {pins : List (Addr × Obj)} {σ : St} {H : Hp} {s : Shared} {a : Addr} {y d : V} {u r : Value} {o : Option V} {A : Around} {E : Value → Shared → Prop}
/-- d.get(y) -/
theorem d_get1 {Q : Value → Shared → Prop} (hu : A.units + 1 < cLine) (I : Inv X pins σ H s) (g : DGet H a y o) (ry : RelV y u) (h : ∀ w' s', Inv X pins σ H s' → RelV (o.getD .non) w' → Q w' s') :
    wpAny (model X.prog X.w) A (call (.builtin "dict.get") [.ref a, u]) Q E s := by
  rcases g with ⟨kvs, k, e, ey, l⟩ | ⟨kvs, k, b, e, ey, eb, l⟩
  · subst ey
    obtain ⟨z, hd, vs, rel, dd⟩ := dk_rd I.hok e
    refine call_meetsIn PySem.F.slot_dict_get dd.typeIs PySem.F.entry_dict_get (PySem.F.args_dict_get_2 _ _) (meets_dict_get (mixKind X.prog X.w) a (kV_is ry) hd) ⟨_, dd.mapOf, h _ _ (I.tok _) ?_⟩
    rw [l]
    exact (rel.val k).getD rfl
  · subst ey
    cases (show u = Value.ref b from ry)
    obtain ⟨z, hd, xs, rel, dd⟩ := dt_rd I.hok e
    refine call_meetsIn PySem.F.slot_dict_get dd.typeIs PySem.F.entry_dict_get (PySem.F.args_dict_get_2 _ _) (meetsH_dict_get (tupleKind (mixKind X.prog X.w)) a b hd) ⟨tupleKind_room_in1 hu, k, xs, key_of I.hok eb, dd, h _ _ (I.tok _) ?_⟩
    rw [l]
    exact (rel.val k).getD rfl
/-- d.get(y, x) -/
theorem d_get2 {Q : Value → Shared → Prop} (hu : A.units + 1 < cLine) (I : Inv X pins σ H s) (g : DGet H a y o) (ry : RelV y u) (rd : RelV d r) (h : ∀ w' s', Inv X pins σ H s' → RelV (o.getD d) w' → Q w' s') :
    wpAny (model X.prog X.w) A (call (.builtin "dict.get") [.ref a, u, r]) Q E s := by
  rcases g with ⟨kvs, k, e, ey, l⟩ | ⟨kvs, k, b, e, ey, eb, l⟩
  · subst ey
    obtain ⟨z, hd, vs, rel, dd⟩ := dk_rd I.hok e
    refine call_meetsIn PySem.F.slot_dict_get dd.typeIs PySem.F.entry_dict_get (PySem.F.args_dict_get_3 _ _ _) (meets_dict_get_default (mixKind X.prog X.w) a (kV_is ry) hd r) ⟨_, dd.mapOf, h _ _ (I.tok _) ?_⟩
    rw [l]
    exact (rel.val k).getD rd
  · subst ey
    cases (show u = Value.ref b from ry)
    obtain ⟨z, hd, xs, rel, dd⟩ := dt_rd I.hok e
    refine call_meetsIn PySem.F.slot_dict_get dd.typeIs PySem.F.entry_dict_get (PySem.F.args_dict_get_3 _ _ _) (meetsH_dict_get_default (tupleKind (mixKind X.prog X.w)) a b hd r) ⟨tupleKind_room_in1 hu, k, xs, key_of I.hok eb, dd, h _ _ (I.tok _) ?_⟩
    rw [l]
    exact (rel.val k).getD rd
end

def tDGet1 (td ty : TE) : TE := fun σ H Q => td σ H fun x H1 => ∃ a, x = .ref a ∧ IsD H1 a ∧ ty σ H1 fun y H2 => ∃ o, DGet H2 a y o ∧ Q (o.getD .non) H2
def tDGet2 (td ty tx : TE) : TE := fun σ H Q => td σ H fun x H1 => ∃ a, x = .ref a ∧ IsD H1 a ∧ ty σ H1 fun y H2 => tx σ H2 fun z H3 => ∃ o, DGet H3 a y o ∧ Q (o.getD z) H3
/-- d.pop(k): there; d.pop(k, x): there or not -/
def tDPop1 (td ty : TE) : TE := fun σ H Q => td σ H fun x H1 => ∃ a, x = .ref a ∧ IsD H1 a ∧ ty σ H1 fun y H2 => ∃ kvs k v, H2 a = some (.dK kvs) ∧ y = kV k ∧ valV kvs k = some v ∧ Q v (upd H2 a (.dK (dropK kvs k)))
def tDPop2 (td ty tx : TE) : TE := fun σ H Q => td σ H fun x H1 => ∃ a, x = .ref a ∧ IsD H1 a ∧ ty σ H1 fun y H2 => tx σ H2 fun z H3 => ∃ kvs k, H3 a = some (.dK kvs) ∧ y = kV k ∧
  (∀ v, valV kvs k = some v → Q v (upd H3 a (.dK (dropK kvs k)))) ∧ (valV kvs k = none → Q z H3)
section
variable {X : Cx} {o e f : Expr} {apos cpos : Pos} {td ty tx : TE}
theorem pe_dget1 (hu : X.A.units + 1 < cLine) (ho : PE X o td) (he : PE X e ty) (m : M1 X o "get" apos e cpos) : PE X (.Call (.Attribute o "get" apos) [e] [] cpos) (tDGet1 td ty) := by
  intro pins s σ H Q I h
  refine wpAny_Call_method m.base m.few m.line PySem.F.plainAttrs_dict PySem.F.slot_dict_get PySem.F.type_dict_get (thn (ho pins s σ H _ I h) fun u s1 ⟨x, H1, I1, rx, a, ex, d, q1⟩ => ?_)
  subst ex
  obtain rfl : u = Value.ref a := rx
  obtain ⟨t1, t2, _⟩ := isD_at I1 d
  refine ⟨t1, t2, ?_⟩
  rw [m.trees]
  refine Calls.callWith_builtin rfl (Calls.evalArgs_plain (Calls.spliced_cons (thn (he pins s1 σ H1 _ I1 q1) fun iv s2 ⟨y, H2, I2, ry, ov, g, q2⟩ => Calls.spliced_nil ?_)))
  exact d_get1 hu I2 g ry fun w' s3 I3 rw' => ⟨_, H2, I3, rw', q2⟩
theorem pe_dget2 (hu : X.A.units + 1 < cLine) (ho : PE X o td) (he : PE X e ty) (hf : PE X f tx) (m : M2 X o "get" apos e f cpos) : PE X (.Call (.Attribute o "get" apos) [e, f] [] cpos) (tDGet2 td ty tx) := by
  intro pins s σ H Q I h
  refine wpAny_Call_method m.base m.few m.line PySem.F.plainAttrs_dict PySem.F.slot_dict_get PySem.F.type_dict_get (thn (ho pins s σ H _ I h) fun u s1 ⟨x, H1, I1, rx, a, ex, d, q1⟩ => ?_)
  subst ex
  obtain rfl : u = Value.ref a := rx
  obtain ⟨t1, t2, _⟩ := isD_at I1 d
  refine ⟨t1, t2, ?_⟩
  rw [m.trees]
  refine Calls.callWith_builtin rfl (Calls.evalArgs_plain (Calls.spliced_cons (thn (he pins s1 σ H1 _ I1 q1) fun iv s2 ⟨y, H2, I2, ry, q2⟩ =>
    Calls.spliced_cons (thn (hf pins s2 σ H2 _ I2 q2) fun fv s3 ⟨z, H3, I3, rz, ov, g, q3⟩ => Calls.spliced_nil ?_))))
  exact d_get2 hu I3 g ry rz fun w' s4 I4 rw' => ⟨_, H3, I4, rw', q3⟩
theorem pe_dpop1 (ho : PE X o td) (he : PE X e ty) (m : M1 X o "pop" apos e cpos) : PE X (.Call (.Attribute o "pop" apos) [e] [] cpos) (tDPop1 td ty) := by
  intro pins s σ H Q I h
  refine wpAny_Call_method m.base m.few m.line PySem.F.plainAttrs_dict PySem.F.slot_dict_pop PySem.F.type_dict_pop (thn (ho pins s σ H _ I h) fun u s1 ⟨x, H1, I1, rx, a, ex, d, q1⟩ => ?_)
  subst ex
  obtain rfl : u = Value.ref a := rx
  obtain ⟨t1, t2, _⟩ := isD_at I1 d
  refine ⟨t1, t2, ?_⟩
  rw [m.trees]
  refine Calls.callWith_builtin rfl (Calls.evalArgs_plain (Calls.spliced_cons (thn (he pins s1 σ H1 _ I1 q1) fun iv s2 ⟨y, H2, I2, ry, kvs, k, v, ea, ey, l, q2⟩ => Calls.spliced_nil ?_)))
  subst ey
  exact d_pop I2 ea ry l (.inl rfl) fun w' s3 I3 rw' => ⟨v, _, I3, rw', q2⟩
theorem pe_dpop2 (ho : PE X o td) (he : PE X e ty) (hf : PE X f tx) (m : M2 X o "pop" apos e f cpos) : PE X (.Call (.Attribute o "pop" apos) [e, f] [] cpos) (tDPop2 td ty tx) := by
  intro pins s σ H Q I h
  refine wpAny_Call_method m.base m.few m.line PySem.F.plainAttrs_dict PySem.F.slot_dict_pop PySem.F.type_dict_pop (thn (ho pins s σ H _ I h) fun u s1 ⟨x, H1, I1, rx, a, ex, d, q1⟩ => ?_)
  subst ex
  obtain rfl : u = Value.ref a := rx
  obtain ⟨t1, t2, _⟩ := isD_at I1 d
  refine ⟨t1, t2, ?_⟩
  rw [m.trees]
  refine Calls.callWith_builtin rfl (Calls.evalArgs_plain (Calls.spliced_cons (thn (he pins s1 σ H1 _ I1 q1) fun iv s2 ⟨y, H2, I2, ry, q2⟩ =>
    Calls.spliced_cons (thn (hf pins s2 σ H2 _ I2 q2) fun fv s3 ⟨z, H3, I3, rz, kvs, k, ea, ey, q3, q4⟩ => Calls.spliced_nil ?_))))
  subst ey
  cases l : valV kvs k with
  | some v => exact d_pop I3 ea ry l (.inr ⟨fv, rfl⟩) fun w' s4 I4 rw' => ⟨v, _, I4, rw', q3 v l⟩
  | none => exact d_popD I3 ea ry l fun s4 I4 => ⟨z, H3, I4, rz, q4 l⟩
end

/-! ### dict(d): a copy -/
section
variable {X : Cx} {pins : List (Addr × Obj)} {σ : St} {H : Hp} {s : Shared} {a : Addr} {kvs : List (Key × V)} {A : Around} {E : Value → Shared → Prop}
theorem d_copyOf {Q : Value → Shared → Prop} (I : Inv X pins σ H s) (e : Rd H a (.dK kvs)) (h : ∀ p s', H p = none → Inv X pins σ (upd H p (.dK kvs)) s' → Q (.ref p) s') : wpAny (model X.prog X.w) A (call (.type "dict") [.ref a]) Q E s := by
  obtain ⟨z, hd, vs, rel, dd⟩ := dk_rd I.hok e
  refine kt_call_dict hd dd (by rw [← rel.length]; exact z) fun h' dd' hs => ?_
  refine h _ _ (I.hok.fresh (Nat.le_refl _)) (I.laid (a := s.heap.objs.size) (o := .dK kvs) (t' := s.toks) (fun b q hq => ?_) (Nat.le_refl _) (dk_new z (beq_eq_false_iff_ne.mpr (Ne.symm (Nat.ne_of_lt I.big))) rel dd'))
  exact (hs.2 b (Nat.ne_of_lt (Heap.lt_size hq))).trans (Heap.get?_push_of_some _ hq)
end


section
variable {X : Cx} {pins : List (Addr × Obj)} {σ : St} {H : Hp} {s : Shared} {a : Addr} {y : V} {u : Value} {A : Around} {E : Value → Shared → Prop}
/-- d[y], not there: a KeyError -/
theorem d_missing {Q : Value → Shared → Prop} (hu : A.units + 1 < cLine) (hh : A.handled = none) (I : Inv X pins σ H s) (g : DGet H a y none) (ry : RelV y u)
    (h : ∀ h' e t', Heap.NewExc s.heap h' e "KeyError" → E (.ref e) { s with heap := h', toks := t' }) : wpAny (model X.prog X.w) A (getItem (.ref a) u) Q E s := by
  rcases g with ⟨kvs, k, e, ey, l⟩ | ⟨kvs, k, b, e, ey, eb, l⟩
  · subst ey
    obtain ⟨z, hd, vs, rel, dd⟩ := dk_rd I.hok e
    have hn : valueAt vs k = none := RelO.none_of (by rw [l]; exact rel.val k)
    exact wpAny_getItem_missing_of (kV_is ry) hd hh dd.mapOf hn fun h' ex ne => h h' ex _ ne
  · subst ey
    cases (show u = Value.ref b from ry)
    obtain ⟨z, hd, xs, rel, dd⟩ := dt_rd I.hok e
    have hn : (atKey xs k).map (·.2) = none := RelO.none_of (by rw [l]; exact rel.val k)
    exact wpAny_getItem_missing_heap (tupleKind_room_in1 hu) (key_of I.hok eb) hd hh dd (Option.map_eq_none_iff.mp hn) fun h' ex ne => h h' ex _ ne
end
end L2

namespace Att
open PySem PySem.W PySem.Calls PyProof.Rows

/-! ### the script -/
theorem ints_of_wellAll {P : Params} {h : Heap} : ∀ (ns : List Int) (vs : List Value), WellAll P h vs (ns.map WData.int) → IntsAre vs ns := by
  intro ns
  induction ns with
  | nil =>
    intro vs w
    rw [List.map_nil] at w
    cases w
    exact .nil
  | cons n ns ih =>
    intro vs w
    rw [List.map_cons] at w
    cases w with
    | cons a b =>
      cases a
      exact .cons _ _ (ih _ b)

theorem script_of {l : OpenLaw} {n : Nat} (hn : l.most = some n) {P : Params} {h : Heap} {args : List WData} {vals : List Value}
    (hpre : l.row.toRowW.claim.pre args = true) (hwl : WellAll P h vals args) :
    ∃ a vs ns, vals = [Value.ref a] ∧ args = [WData.list (ns.map WData.int)] ∧ h.get? a = some { cls := .type "list", data := .seq vs.toArray } ∧ IntsAre vs ns ∧ ns.length ≤ n := by
  have hsh : WShape.hasAll [] args [.list .int] = true := (pre_splitW hpre).1
  have hc : l.pre.holds [] { args := args } = true := (pre_splitW hpre).2
  obtain ⟨d, r, rfl, h1, h2⟩ := hasAllW_cons hsh
  obtain rfl := hasAllW_nil h2
  obtain ⟨xs, rfl, h3⟩ := hasW_list h1
  obtain ⟨ns, rfl⟩ := items_int h3
  have hlen : ns.length ≤ n := by
    unfold OpenLaw.pre at hc
    have h4 : (WTm.not (.lt (.lit (.int (n : Int))) (.len (.arg 0)))).holds [] { args := [.list (ns.map .int)] } = true := by
      have h4 := (holds_andW hc).1
      rw [hn] at h4
      exact h4
    have h5 := condW_of h4 (w_not (w_lt w_lit (w_len_list (w_arg rfl))))
    rw [List.length_map] at h5
    refine Nat.le_of_not_lt fun q => ?_
    have q' : (n : Int) < ((ns.length : Nat) : Int) := by omega
    first
      | (rw [decide_eq_true q'] at h5; exact absurd h5 (by decide))
      | (simp at h5; omega)
  cases hwl with
  | cons w1 w2 =>
    cases w2
    cases w1 with
    | list ho hall => exact ⟨_, _, ns, rfl, rfl, ho, ints_of_wellAll ns _ hall, hlen⟩

theorem post_true (l : OpenLaw) (args : List WData) : l.row.toRowW.claim.post args (.bool true) args = true :=
  postW_of (r := l.row.toRowW) (X := (true == true))
    (show WShape.has [] (.bool true) .bool = true by first | rfl | decide | simp [WShape.has, WShape.arms, WShape.armsAll])
    (show (WTm.eq .res (.lit (.bool true))).value [] { args := args, res := some (.bool true), after := args } = some (.bool (true == true)) from w_eq_bool (w_res rfl) w_lit) rfl

/-! ### the attachment: holds_open's last premise (the goal 'hc' behind k_head) from a wpAny of the law's body -/
theorem attach {l : OpenLaw} {n : Nat} {q : Program} {loose : List Str} {XP : (Str → Option Value) → Heap → Prop} {YP : World → Heap → Prop} {d : DefRec} {x : Str}
    (hn : l.most = some n) (hdf : d.params.defaults = [])
    (hbind : ∀ pm cd doc v : Value, bindArgs (docDef d.name d.params d.body d.scope pm cd doc) ⟨[v], []⟩ = pure [(x, v)])
    (hx : d.scope.names.lookup x = some .local ∨ d.scope.names.lookup x = some .cell)
    (hk : d.scope.kind = .function) (hco : d.scope.isCoroutine = false) (hgen : d.scope.isGenerator = false)
    (body : ∀ (w : World) (s₀ s₁ s : Shared) (mg mb : Str → Option Value) (fa : Addr) (o : Obj) (pm cd doc : Value) (a : Addr) (vs : List Value) (ns : List Int),
      Ground q loose [] XP w s₀ mg mb s₁.heap → YP w s₁.heap →
      s₁.heap.get? fa = some o → o.data = .func (docDef d.name d.params d.body d.scope pm cd doc) → s₁.heap.CodeRec cd d.name → mg d.name = some (.ref fa) →
      s₁.heap.get? a = some { cls := .type "list", data := .seq vs.toArray } → IntsAre vs ns → ns.length ≤ n →
      s.gens = #[] → s.os = s₁.os →
      Fr s₁.heap s₁.heap.objs.size s.heap (bindL (envOfC d.name d.scope s₁.heap.objs.size fa cd).kindOf [(x, .ref a)] fun _ => none) →
      Cl s₁.heap.objs.size (cellsFrom (s₁.heap.objs.size + 1) d.scope.names []) s.heap (bindC (envOfC d.name d.scope s₁.heap.objs.size fa cd).kindOf [(x, .ref a)] fun _ => none) →
      wpAny (model l.prog w) (callerA.deeper (envOfC d.name d.scope s₁.heap.objs.size fa cd)) (execs d.body (envOfC d.name d.scope s₁.heap.objs.size fa cd))
        (fun f s' => f = .ret (.bool true) ∧ OldK s₁.heap s'.heap ∧ s'.os = s₁.os ∧ AllBare s'.gens) (fun _ _ => False) s) :
    WalkO q loose XP YP l.row.toRowW d [] (fun f vs => PySem.call f vs) := by
  intro w s₀ s₁ mg mb G Y fa o pm cd doc dV kV ho hd hcd hD hmg hg args vals as hpre hlay hrd hwl hlo
  obtain rfl : dV = .none := Dflts.none hD hdf
  obtain rfl : kV = .none := Dflts.noKw hD
  obtain ⟨a, vs, ns, rfl, rfl, hobj, hints, hlen⟩ := script_of hn hpre hwl
  refine enter_call ?_
  refine call_cells_ret (o := o) (by rw [depth_caller]; decide) ho (fd_plain hd) G.T.nolimit hcd (hbind pm cd doc (.ref a)) (fun y hy => ?_) (fun h₁ tk F X => ?_) hco hgen hk
  · obtain rfl : y = (x, Value.ref a) := List.mem_singleton.mp hy
    rcases hx with e | e
    · exact .inl e
    · exact .inr ⟨e, cellsFrom_some _ _ _ (.inl e)⟩
  · refine wpAny_mono (body w s₀ s₁ { s₁ with heap := h₁, toks := tk } mg mb fa o pm cd doc a vs ns G Y ho (fd_plain hd) hcd hmg hobj hints hlen hg rfl F X) (fun f s' hq => ?_) (fun _ _ hq => hq)
    obtain ⟨rfl, h2, h3, h4⟩ := hq
    exact ⟨.inl ⟨.bool true, .bool true, [], rfl, fun _ => rfl, .bool true, post_true l _, fun _ => ⟨List.Pairwise.nil, fun _ hm => (nomatch hm)⟩⟩, h2, h3, h4⟩

/-- the same from a codeAny of the CALL (for a layer whose function contracts speak of calls) -/
theorem attach_call {l : OpenLaw} {n : Nat} {q : Program} {loose : List Str} {XP : (Str → Option Value) → Heap → Prop} {YP : World → Heap → Prop} {d : DefRec}
    (hn : l.most = some n) (hdf : d.params.defaults = [])
    (call : ∀ (w : World) (s₀ s₁ : Shared) (mg mb : Str → Option Value) (fa : Addr) (o : Obj) (pm cd doc : Value) (a : Addr) (vs : List Value) (ns : List Int),
      Ground q loose [] XP w s₀ mg mb s₁.heap → YP w s₁.heap →
      s₁.heap.get? fa = some o → o.data = .func (docDef d.name d.params d.body d.scope pm cd doc) → s₁.heap.CodeRec cd d.name → mg d.name = some (.ref fa) →
      s₁.heap.get? a = some { cls := .type "list", data := .seq vs.toArray } → IntsAre vs ns → ns.length ≤ n → s₁.gens = #[] →
      codeAny (model l.prog w) callerA (.call (.ref fa) ⟨[.ref a], []⟩) (fun r s' => r = .ok (.ret (.bool true)) ∧ OldK s₁.heap s'.heap ∧ s'.os = s₁.os ∧ AllBare s'.gens) s₁) :
    WalkO q loose XP YP l.row.toRowW d [] (fun f vs => PySem.call f vs) := by
  intro w s₀ s₁ mg mb G Y fa o pm cd doc dV kV ho hd hcd hD hmg hg args vals as hpre hlay hrd hwl hlo
  obtain rfl : dV = .none := Dflts.none hD hdf
  obtain rfl : kV = .none := Dflts.noKw hD
  obtain ⟨a, vs, ns, rfl, rfl, hobj, hints, hlen⟩ := script_of hn hpre hwl
  refine enter_call (codeAny_mono (call w s₀ s₁ mg mb fa o pm cd doc a vs ns G Y ho (fd_plain hd) hcd hmg hobj hints hlen hg) fun r s' hq => ?_)
  obtain ⟨rfl, h2, h3, h4⟩ := hq
  exact ⟨.inl ⟨.bool true, .bool true, [], rfl, fun _ => rfl, .bool true, post_true l _, fun _ => ⟨List.Pairwise.nil, fun _ hm => (nomatch hm)⟩⟩, h2, h3, h4⟩

/-- the same where the top left finished generators (o_head chose holds_openN): nothing may have changed at all and no generator may be left -/
theorem attachN {l : OpenLaw} {n : Nat} {q : Program} {loose : List Str} {XP : (Str → Option Value) → Heap → Prop} {YP : World → Heap → Prop} {d : DefRec} {x : Str}
    (hn : l.most = some n) (hdf : d.params.defaults = [])
    (hbind : ∀ pm cd doc v : Value, bindArgs (docDef d.name d.params d.body d.scope pm cd doc) ⟨[v], []⟩ = pure [(x, v)])
    (hx : d.scope.names.lookup x = some .local ∨ d.scope.names.lookup x = some .cell)
    (hk : d.scope.kind = .function) (hco : d.scope.isCoroutine = false) (hgen : d.scope.isGenerator = false)
    (body : ∀ (w : World) (s₀ s₁ s : Shared) (mg mb : Str → Option Value) (fa : Addr) (o : Obj) (pm cd doc : Value) (a : Addr) (vs : List Value) (ns : List Int),
      Ground q loose [] XP w s₀ mg mb s₁.heap → YP w s₁.heap →
      s₁.heap.get? fa = some o → o.data = .func (docDef d.name d.params d.body d.scope pm cd doc) → s₁.heap.CodeRec cd d.name → mg d.name = some (.ref fa) →
      s₁.heap.get? a = some { cls := .type "list", data := .seq vs.toArray } → IntsAre vs ns → ns.length ≤ n →
      s.gens = #[] → s.os = s₁.os →
      Fr s₁.heap s₁.heap.objs.size s.heap (bindL (envOfC d.name d.scope s₁.heap.objs.size fa cd).kindOf [(x, .ref a)] fun _ => none) →
      Cl s₁.heap.objs.size (cellsFrom (s₁.heap.objs.size + 1) d.scope.names []) s.heap (bindC (envOfC d.name d.scope s₁.heap.objs.size fa cd).kindOf [(x, .ref a)] fun _ => none) →
      wpAny (model l.prog w) (callerA.deeper (envOfC d.name d.scope s₁.heap.objs.size fa cd)) (execs d.body (envOfC d.name d.scope s₁.heap.objs.size fa cd))
        (fun f s' => f = .ret (.bool true) ∧ (∀ b o, s₁.heap.get? b = some o → s'.heap.get? b = some o) ∧ s'.os = s₁.os ∧ s'.gens = #[]) (fun _ _ => False) s) :
    WalkN q loose XP YP l.row.toRowW d [] (fun f vs => PySem.call f vs) := by
  intro w s₀ s₁ mg mb G Y fa o pm cd doc dV kV ho hd hcd hD hmg hg args vals as hpre hlay hrd hwl hlo
  obtain rfl : dV = .none := Dflts.none hD hdf
  obtain rfl : kV = .none := Dflts.noKw hD
  obtain ⟨a, vs, ns, rfl, rfl, hobj, hints, hlen⟩ := script_of hn hpre hwl
  refine enter_callW ?_
  refine call_cells_ret (o := o) (by rw [depth_caller]; decide) ho (fd_plain hd) G.T.nolimit hcd (hbind pm cd doc (.ref a)) (fun y hy => ?_) (fun h₁ tk F X => ?_) hco hgen hk
  · obtain rfl : y = (x, Value.ref a) := List.mem_singleton.mp hy
    rcases hx with e | e
    · exact .inl e
    · exact .inr ⟨e, cellsFrom_some _ _ _ (.inl e)⟩
  · refine wpAny_mono (body w s₀ s₁ { s₁ with heap := h₁, toks := tk } mg mb fa o pm cd doc a vs ns G Y ho (fd_plain hd) hcd hmg hobj hints hlen hg rfl F X) (fun f s' hq => ?_) (fun _ _ hq => hq)
    obtain ⟨rfl, h2, h3, h4⟩ := hq
    exact ⟨.inl ⟨.bool true, .bool true, [], rfl, fun _ => rfl, .bool true, post_true l _, fun _ => ⟨List.Pairwise.nil, fun _ hm => (nomatch hm)⟩⟩, h2, h3, h4⟩

/-! ### rules over ANY heap (no ledger) from facts about the written part K: the library's own take a ledger (News) for what they write -/
section
variable {prog : Program} {w : World} {A : Around} {E : Value → Shared → Prop} {s : Shared} {K : Frag}

/-- a def of the module, or a method (qual 'C.m'), entered: the frame is the next address; cells behind it -/
theorem call_fn {R : Result → Shared → Prop} {name qual : Str} {params : Arguments} {body : List Stmt} {scope : Scope} {dV kV doc pm cdv ct oc : Value} {an od : Option Addr} {osl : Array (Option Value)} {f : Addr} {args : Args} {binds : List (Str × Value)}
    (X : K.In s.heap) (hlim : s.heap.NoLimit) (ho : K.lookup f = some ⟨oc, od, .func (fnOf name qual params body scope dV kV doc pm an cdv ct), osl⟩) (hcd : codeIn K cdv qual = true) (hroom : A.depth < recursionLimit)
    (hbind : BindsTo s (fnOf name qual params body scope dV kV doc pm an cdv ct) args binds)
    (hkind : (binds.all fun y => scope.names.lookup y.1 == some .local || scope.names.lookup y.1 == some .cell) = true)
    (h : ∀ s₁, InCallC s s.heap.objs.size (bindL (envOfC qual scope s.heap.objs.size f cdv).kindOf binds fun _ => none) (cellsFrom (s.heap.objs.size + 1) scope.names [])
        (bindC (envOfC qual scope s.heap.objs.size f cdv).kindOf binds fun _ => none) s₁ →
      wpAny (model prog w) (A.deeper (envOfC qual scope s.heap.objs.size f cdv)) (execs body (envOfC qual scope s.heap.objs.size f cdv))
        (fun fl s' => R (.ok (.ret (match fl with | .ret v => v | _ => .none))) s')
        (fun e s' => wpAny (model prog w) (A.deeper (envOfC qual scope s.heap.objs.size f cdv)) (leaving (envOfC qual scope s.heap.objs.size f cdv) e) (fun _ s'' => R (.error e) s'') (fun e' s'' => R (.error e') s'') s') s₁)
    (hco : scope.isCoroutine = false) (hgen : scope.isGenerator = false) (hk : scope.kind = .function) : codeAny (model prog w) A (.call (.ref f) args) R s := by
  refine codeAny_call_function hroom (X _ _ ho) rfl hco hgen rfl (codeRec_of X hcd) (hbind _ _ _ _ ?_)
  refine wpAny_newFunctionEnv_cells hk (kindsX hkind _) fun env he s₁ x => ?_
  subst he
  exact ⟨hlim.keeps x.toInCall.keep, codeAny_func (h s₁ x)⟩

/-- C(..): dict at size, instance at size + 1, then __init__ -/
theorem make_obj {R : Result → Shared → Prop} {C fI : Addr} {rest : List Value} {kw : List (Str × Value)}
    (X : K.In s.heap) (hm : makesIn K C = true) (hi : findIn K (.ref C) "__init__" = some (some (.ref fI))) (hf : isFn K (.ref fI) = true)
    (h : codeAny (model prog w) (A.under (.builtin "type.__call__" ⟨.ref C :: rest, kw⟩)) (.call (.ref fI) ⟨.ref (s.heap.objs.size + 1) :: rest, kw⟩) (InitBack (s.heap.objs.size + 1) R)
      { s with heap := (s.heap.push emptyDict).push (instObj C s.heap.objs.size) }) : codeAny (model prog w) A (.call (.ref C) ⟨rest, kw⟩) R s := by
  obtain ⟨hh, g, d, t, os⟩ := s
  exact make_core (makes_of X hm) (looks_findIn X hi) (fun self => bind_fn X self (beq_iff_eq.mp hf)) (.inl rfl) h

/-- x.name where the instance's dict holds the name and the class does not -/
theorem get_field {x C : Addr} {ox : Obj} {es : List DictEntry} {n : Nat} {name : Str} {expr : Bool} {v : Value} {Q : Value → Shared → Prop}
    (X : K.In s.heap) (I : PySem.W.InstAt s.heap x ox C (some (dictOf es n))) (hg : plainGet K C name = true) (hh : hasDictIn K C = true) (ha : findIn K (.ref C) name = some none)
    (hl : getL name es = some (some v)) (hv : handedIn v = true) (h : Q v { s with toks := s.toks + 1 }) : wpAny (model prog w) A (getAttr (.ref x) name expr) Q E s :=
  get_value X I (plainGet_of hg).1 (findObj_own hh ha rfl hl) hv h

/-- x.m(..): the method found in the class -/
theorem get_method {x C f : Addr} {ox : Obj} {es : List DictEntry} {n : Nat} {name : Str} {pl : Sem Bool} {Q : Value × List Value → Shared → Prop}
    (X : K.In s.heap) (I : PySem.W.InstAt s.heap x ox C (some (dictOf es n))) (hg : plainGet K C name = true) (hf : findIn K (.ref C) name = some (some (.ref f))) (ht : isFn K (.ref f) = true)
    (hl : getL name es = some none) (h : Q (.ref f, [.ref x]) s) : wpAny (model prog w) A (getMethod (.ref x) name pl) Q E s :=
  method_fn X I (plainGet_of hg).1 (plainGet_of hg).2 hf (beq_iff_eq.mp ht) (by show (lookIn name (dictOf es n)).map _ = _; rw [lookIn_dict, hl]; rfl) h

/-! the whole heap as the ledger: makes every rule that writes through a ledger a rule over any heap -/
def noObjs (h : Heap) : Heap := { h with objs := #[] }
theorem noObjs_get (h : Heap) (b : Addr) : (noObjs h).get? b = none := by
  cases e : (noObjs h).get? b with
  | none => rfl
  | some o => exact absurd (Heap.lt_size e) (Nat.not_lt_zero _)
def ledger (h : Heap) (L d : Addr) : List (Addr × Obj) := (List.range h.objs.size).filterMap fun a => if a = L ∨ a = d then none else (h.get? a).map fun o => (a, o)
theorem mem_ledger {h : Heap} {L d a : Addr} {o : Obj} : (a, o) ∈ ledger h L d ↔ a ≠ L ∧ a ≠ d ∧ h.get? a = some o := by
  unfold ledger
  rw [List.mem_filterMap]
  constructor
  · rintro ⟨b, _, e⟩
    split at e
    · cases e
    · rename_i hb
      obtain ⟨o', ho, e'⟩ := Option.map_eq_some_iff.mp e
      cases e'
      exact ⟨fun q => hb (.inl q), fun q => hb (.inr q), ho⟩
  · rintro ⟨n1, n2, ho⟩
    refine ⟨a, List.mem_range.mpr (Heap.lt_size ho), ?_⟩
    rw [if_neg (show ¬ (a = L ∨ a = d) from fun q => q.elim n1 n2), ho] <;> rfl
theorem news_ledger {h : Heap} {L d : Addr} {od : Obj} (hne : d ≠ L) (ho : h.get? d = some od) : News (noObjs h) L h ([] ++ (d, od) :: ledger h L d) := by
  rintro ⟨a, o⟩ hp
  rcases List.mem_cons.mp hp with e | hp
  · cases e
    exact ⟨ho, hne, noObjs_get _ _⟩
  · obtain ⟨n1, n2, e⟩ := mem_ledger.mp hp
    exact ⟨e, n1, noObjs_get _ _⟩
theorem fr_all {h : Heap} {L : Addr} {m : Str → Option Value} (n : h.Ns L m) : Fr (noObjs h) L h m :=
  ⟨n, fun b o e => (by rw [noObjs_get] at e; cases e), Nat.zero_le _⟩
/-- Upd of the head entry (for append_K, setItem_K ..) -/
theorem upd_ledger {h : Heap} {L d : Addr} {o o' : Obj} : Upd d o o' ((d, o) :: ledger h L d) ((d, o') :: ledger h L d) :=
  .head fun ⟨_, _⟩ hp => (mem_ledger.mp hp).2.1

/-- x.name = v over any heap: L is any namespace of the heap (the frame's, say): its map stays, its object is not told; all else but the dict stays -/
theorem set_field {x C dx L : Addr} {ox : Obj} {m : Str → Option Value} {es es' : List DictEntry} {n n' : Nat} {name : Str} {v : Value} {Q : Unit → Shared → Prop}
    (X : K.In s.heap) (I : PySem.W.InstAt s.heap x ox C (some (dictOf es n))) (hd : ox.dict = some dx) (hL : s.heap.Ns L m) (hne : dx ≠ L)
    (hs : findIn K (.ref C) "__setattr__" = some (some (.builtin "object.__setattr__"))) (hp : plainOver K C = true) (ht : takerIn K C name = some none) (hh : hasDictIn K C = true) (hl : (getL name es).isSome = true)
    (e : (putL name (PyData.keyHash w.params name) (.str name (s.toks + 1)) v es, putN name es n) = (es', n')) (hz : es'.length ≤ 1000)
    (h : ∀ h' : Heap, h'.Ns L m → h'.get? dx = some (dictOf es' n') → (∀ b o, b ≠ dx → b ≠ L → s.heap.get? b = some o → h'.get? b = some o) → Q () { s with heap := h', toks := s.toks + 2 }) :
    wpAny (model prog w) A (setAttr (.ref x) name v) Q E s := by
  obtain ⟨e1, e2⟩ := Prod.mk.inj e
  have hdx : s.heap.get? dx = some (dictOf es n) := by
    have := I.dict
    rw [hd] at this
    exact this
  refine set_plain X I hs (osa_dict (s := { s with toks := s.toks + 1 }) (h₀ := noObjs s.heap) (L := L) (m := m) (od := dictOf es n) (od' := dictOf es' n') (es := es') (n := n') (pre := []) (post := ledger s.heap L dx)
    (fr_all hL) (news_ledger hne hdx) X I hd hp ht hh hl (fun _ q => nomatch q) (fun ⟨_, _⟩ q => (mem_ledger.mp q).2.1) (by rw [putName_dict, e1, e2]) rfl hz fun h' F' N' => ?_)
  exact h h' F'.ns (N'.get (List.Mem.head _)) fun b o n1 n2 ho => N'.get (List.Mem.tail _ (mem_ledger.mpr ⟨n2, n1, ho⟩))
end
end Att

namespace L2
open PySem PySem.Spec PyProof.Rows

theorem vals_ints : ∀ {vs : List Value} {ns : List Int}, IntsAre vs ns → Vals (ns.map V.int) vs
  | _, _, .nil => .nil
  | _, _, .cons n t h => .cons ⟨t, rfl⟩ (vals_ints h)

/-- nothing is tracked but the script, known to the object (or it is an object of the module) -/
def Only (H : Hp) : Prop := ∀ b, H b = none ∨ ∃ o xs, H b = some (.frz o (.lst xs))

/-- THE HEAD: the law's promise, at the heap behind the top. F, the promise of the law's def, may use that base is part of the heap (so K.In base, base.Ns mainGlobals mg stand in Mod) -/
theorem law_call {P : Program} {w : World} {K : PySem.W.Frag} {mg mb : Str → Option Value} {CX : CXT} {k : Nat} {fa a : Addr} {fd : FuncData} {x : Str} {sp : Sp} {s₁ : Shared} {vs : List Value} {ns : List Int}
    (KX : K.In s₁.heap) (hns : s₁.heap.Ns mainGlobals mg) (hb : s₁.heap.Ns builtinsNs mb) (hbb : ∀ x : Str, x ≠ "__name__" → mb x = bootBuiltins x) (hlim : s₁.heap.NoLimit) (hg : s₁.gens = #[])
    (ha : s₁.heap.get? a = some { cls := .type "list", data := .seq vs.toArray }) (hi : IntsAre vs ns) (hl : ns.length ≤ sizeLine) (hr : Room k callerA)
    (F : ∀ base : Heap, K.In base → base.Ns mainGlobals mg → FnOk P w K mg base CX k fa fd [x] sp) (hbind : ∀ (s : Shared) (u : Value), BindsTo s fd ⟨[u], []⟩ [(x, u)])
    (hsp : ∀ H : Hp, Only H → SqL K H a (ns.map V.int) → sp [.ref a] H (fun v _ => v = .bl true) fun _ _ _ => False)
    (hCX : ∀ H e s', CX [] H s₁ (fun _ _ _ => False) e s' → False) :
    codeAny (model P w) callerA (.call (.ref fa) ⟨[.ref a], []⟩) (fun r s' => r = .ok (.ret (.bool true)) ∧ OldK s₁.heap s'.heap ∧ s'.os = s₁.os ∧ AllBare s'.gens) s₁ := by
  have rv := vals_ints hi
  have lenV := hi.length
  -- from an abstract heap in which nothing but the script may be tracked
  have core : ∀ H : Hp, Only H → SqL K H a (ns.map V.int) → HOk P w H s₁.heap → (∀ b, H b ≠ none → b = a) → (H a ≠ none → K.lookup a = none) →
      codeAny (model P w) callerA (.call (.ref fa) ⟨[.ref a], []⟩) (fun r s' => r = .ok (.ret (.bool true)) ∧ OldK s₁.heap s'.heap ∧ s'.os = s₁.os ∧ AllBare s'.gens) s₁ := by
    intro H hO hS hok hA hK
    have base_of : ∀ {b : Addr} {o : Obj}, s₁.heap.get? b = some o → H b = none → (hidT s₁.heap H).get? b = some o := fun e n => hidT_get e n
    have noA : ∀ {b : Addr} {o : Obj} {es : Array DictEntry} {ep : Nat}, s₁.heap.get? b = some o → o.data = .dict es ep → H b = none := fun {b o es ep} e d => by
      cases q : H b with
      | none => rfl
      | some u =>
        have e' : b = a := hA b (by rw [q]; simp)
        subst e'
        rw [ha] at e; cases e
        have d' : Data.seq vs.toArray _ = Data.dict es ep := d
        cases d'
    have nsK : ∀ {b : Addr} {m : Str → Option Value}, s₁.heap.Ns b m → (hidT s₁.heap H).Ns b m := fun {b m} ⟨o, es, ep, e, d, r⟩ => ⟨o, es, ep, base_of e (noA e d), d, r⟩
    have hKb : K.In (hidT s₁.heap H) := fun b o e => base_of (KX b o e) (by
      cases q : H b with
      | none => rfl
      | some u =>
        have e' : b = a := hA b (by rw [q]; simp)
        subst e'
        rw [hK (by rw [q]; simp)] at e; cases e)
    have hM : Mod K mg (hidT s₁.heap H) := ⟨hKb, nsK hns, ⟨mb, nsK hb, hbb⟩, let ⟨mc, h1, h2⟩ := hlim; ⟨mc, nsK h1, h2⟩⟩
    have e0 : Env0 P w K mg (hidT s₁.heap H) callerA [] s₁ H := ⟨rfl, hM, fun b o e => of_hidT e, Nat.le_of_eq (hidT_size _ _), trivial, fun b hb => absurd (show b ∈ ([] : List Addr) from hb) (by simp), hok, .of_eq hg⟩
    refine codeAny_mono ((F _ hKb (nsK hns)).run callerA [] s₁ H ⟨[.ref a], []⟩ [.ref a] [.ref a] _ _ hr e0 (hbind s₁ (.ref a)) (.cons rfl .nil) (hsp H hO hS)) fun r s' h => ?_
    cases r with
    | error e => exact (hCX H e s' h).elim
    | ok fl =>
      cases fl with
      | next => exact False.elim h
      | brk => exact False.elim h
      | cont => exact False.elim h
      | ret u =>
        obtain ⟨v, H', os, bare, un, hok', r', q⟩ := h
        have q' : v = .bl true := q
        subst q'
        obtain rfl : u = Value.bool true := r'
        refine ⟨rfl, OldK.of_keep fun b o e => ?_, os, bare⟩
        cases q : H b with
        | none => exact un.keep b o e q (by intro z; exact absurd (show b ∈ ([] : List Addr) from z) (by simp)) (by simp)
        | some u =>
          rcases hO b with z | ⟨ob, xs, z⟩
          · rw [q] at z; cases z
          · have z2 := un.frzs b ob _ z
            obtain ⟨e1, _⟩ := hok b _ z
            obtain ⟨e2, _⟩ := hok' b _ z2
            rw [e] at e1; cases e1
            exact e2
  cases hk : K.lookup a with
  | some o =>
    -- the script is one of the module's own objects
    have e := KX a o hk
    rw [ha] at e
    cases e
    refine core (fun _ => none) (fun _ => .inl rfl) (.inr ⟨_, vs.toArray, _, hk, rfl, rfl, rfl, by rw [List.size_toArray, lenV]; exact hl, by simpa using rv⟩) (fun b u z => by have z' : (none : Option HO) = some u := z; cases z') (fun b z => absurd rfl z) fun z => absurd rfl z
  | none =>
    refine core (fun b => if b = a then some (.frz { cls := .type "list", data := .seq vs.toArray } (.lst (ns.map V.int))) else none) (fun b => ?_) (.inl (.inr ⟨{ cls := .type "list", data := .seq vs.toArray }, if_pos rfl⟩)) (fun b u z => ?_) (fun b z => ?_) fun _ => hk
    · by_cases hb : b = a
      · exact .inr ⟨_, _, if_pos hb⟩
      · exact .inl (if_neg hb)
    · by_cases hb : b = a
      · have z' := (if_pos hb).symm.trans z
        cases z'
        subst hb
        exact ⟨ha, by rw [List.length_map]; exact hl, vs, _, rv, ha⟩
      · have z' := (if_neg hb).symm.trans z
        cases z'
    · by_cases hb : b = a
      · exact hb
      · exact absurd (if_neg hb) z
end L2

namespace L2
open PySem PySem.Spec PyProof.Rows

abbrev KOf {K : PySem.W.Frag} {h : Heap} (_ : K.In h) : PySem.W.Frag := K

/-- the goal that k_head leaves (case hc), from the law's promise. F gives the function object fd (K's own) once, then the promise over every base -/
theorem walk_of {l : PySem.W.OpenLaw} {n k : Nat} {q : Program} {loose : List Str} {XP : (Str → Option Value) → Heap → Prop} {YP : World → Heap → Prop} {d : DefRec} {K : Params → PySem.W.Frag} {CX : World → CXT} {sp : World → Sp} {x : Str}
    (hn : l.most = some n) (hn2 : n ≤ sizeLine) (hdf : d.params.defaults = []) (hr : Room k callerA)
    (hY : ∀ (w : World) (h : Heap), YP w h → (K w.params).In h)
    (F : ∀ (w : World) (mg : Str → Option Value) (fa : Addr) (h : Heap), (K w.params).In h → h.Ns mainGlobals mg → mg d.name = some (.ref fa) →
      ∃ fd : FuncData, (∀ (s : Shared) (u : Value), BindsTo s fd ⟨[u], []⟩ [(x, u)]) ∧
        ∀ base : Heap, (K w.params).In base → base.Ns mainGlobals mg → FnOk l.prog w (K w.params) mg base (CX w) k fa fd [x] (sp w))
    (hsp : ∀ (w : World) (H : Hp) (a : Addr) (ns : List Int), ns.length ≤ n → Only H → SqL (K w.params) H a (ns.map V.int) → sp w [.ref a] H (fun v _ => v = .bl true) fun _ _ _ => False)
    (hCX : ∀ (w : World) (H : Hp) (s : Shared) (e : Value) (s' : Shared), CX w [] H s (fun _ _ _ => False) e s' → False) :
    PySem.W.WalkO q loose XP YP l.row.toRowW d [] (fun f vs => PySem.call f vs) := by
  refine Att.attach_call hn hdf fun w s₀ s₁ mg mb fa o pm cd doc a vs ns G Y ho hd hcd hmg hobj hints hlen hg => ?_
  have KX := hY w _ Y
  obtain ⟨fd, hb, hF⟩ := F w mg fa _ KX G.T.g hmg
  exact law_call KX G.T.g G.T.b G.T.builtins G.T.nolimit hg hobj hints (Nat.le_trans hlen hn2) hr hF hb (fun H hO hS => hsp w H a ns hlen hO hS) fun H e s' => hCX w H s₁ e s'
/-- the same where the promise hangs on the written part alone: (sp := My.sp_law), no hole under a binder -/
theorem walk_ofK {l : PySem.W.OpenLaw} {n k : Nat} {q : Program} {loose : List Str} {XP : (Str → Option Value) → Heap → Prop} {YP : World → Heap → Prop} {d : DefRec} {K : Params → PySem.W.Frag} {CX : CXT} {sp : PySem.W.Frag → Sp} {x : Str}
    (hn : l.most = some n) (hn2 : n ≤ sizeLine) (hdf : d.params.defaults = []) (hr : Room k callerA)
    (hY : ∀ (w : World) (h : Heap), YP w h → (K w.params).In h)
    (F : ∀ (w : World) (mg : Str → Option Value) (fa : Addr) (h : Heap), (K w.params).In h → h.Ns mainGlobals mg → mg d.name = some (.ref fa) →
      ∃ fd : FuncData, (∀ (s : Shared) (u : Value), BindsTo s fd ⟨[u], []⟩ [(x, u)]) ∧
        ∀ base : Heap, (K w.params).In base → base.Ns mainGlobals mg → FnOk l.prog w (K w.params) mg base CX k fa fd [x] (sp (K w.params)))
    (hsp : ∀ (K : PySem.W.Frag) (H : Hp) (a : Addr) (ns : List Int), ns.length ≤ n → Only H → SqL K H a (ns.map V.int) → sp K [.ref a] H (fun v _ => v = .bl true) fun _ _ _ => False)
    (hCX : ∀ (H : Hp) (s : Shared) (e : Value) (s' : Shared), CX [] H s (fun _ _ _ => False) e s' → False) :
    PySem.W.WalkO q loose XP YP l.row.toRowW d [] (fun f vs => PySem.call f vs) :=
  walk_of (K := K) (CX := fun _ => CX) (sp := fun w => sp (K w.params)) hn hn2 hdf hr hY F (fun w H a ns h1 h2 h3 => hsp (K w.params) H a ns h1 h2 h3) fun _ H s e s' => hCX H s e s'
end L2



/-! SHORT WORDS over the layer: a def of the text, its body, what a loop and a test want. -/
namespace L2
open PySem PySem.Spec PyProof.Rows

/-! ### the text by places -/
/-- the j-th statement of a class's body -/
def inClass (s : Stmt) (j : Nat) : Stmt := match s with
  | .ClassDef _ _ _ body _ _ _ _ _ _ _ => body.getD j (.Pass ⟨0, 0, 0, 0⟩)
  | _ => .Pass ⟨0, 0, 0, 0⟩
def defArgs (s : Stmt) : Arguments := match s with
  | .FunctionDef _ a _ _ _ _ _ _ _ _ => a
  | _ => { posonlyargs := [], args := [], vararg := none, kwonlyargs := [], kw_defaults := [], kwarg := none, defaults := [] }
def defBody (s : Stmt) : List Stmt := match s with
  | .FunctionDef _ _ b _ _ _ _ _ _ _ => b
  | _ => []
def defScope (s : Stmt) : Scope := match s with
  | .FunctionDef _ _ _ _ _ _ sc _ _ _ => sc
  | _ => { kind := .function, names := [], isGenerator := false, isCoroutine := false }

/-! ### no exception leaves a def -/
abbrev CX0 : CXT := fun _ _ _ _ _ _ => False
abbrev E0 : XK := fun _ _ _ => False
theorem pass0 {X : Cx} : Passes CX0 X E0 := fun _ _ _ _ _ _ _ h => h.elim

/-! ### a def (or method) of the text as it stands behind the top -/
structure Fun (K : PySem.W.Frag) (x qual : Str) (st : Stmt) (f : Addr) (fd : FuncData) : Prop where
  ex : ∃ (oc : Value) (od : Option Addr) (kV doc pm : Value) (an : Option Addr) (cdv ct : Value) (osl : Array (Option Value)),
    fd = PySem.W.fnOf x qual (defArgs st) (defBody st) (defScope st) .none kV doc pm an cdv ct ∧ K.lookup f = some ⟨oc, od, .func fd, osl⟩ ∧ PySem.W.codeIn K cdv qual = true
  kp : PySem.W.keepIn K (.ref f) = true
section
variable {P : Program} {w : World} {K : PySem.W.Frag} {mg : Str → Option Value} {base : Heap}
/-- THE RULE for a def: its body as a term of rules, and the reading of that term -/
theorem Fun.ok {x qual : Str} {st : Stmt} {f : Addr} {fd : FuncData} {N ps : List Str} {k : Nat} {sp : Sp} (F : Fun K x qual st f fd) (S : FnScope N ps (defScope st)) (len : ∀ vs H Q E, sp vs H Q E → vs.length = ps.length)
    (hbody : ∀ (cdv : Value) (A : Around) (outer : List Env) (s : Shared) (H : Hp) (vs : List V) (Q : VK) (E : XK), Room k (A.deeper (envOfC qual (defScope st) s.heap.objs.size f cdv)) → sp vs H Q E →
      ∃ t, PSs (cxOf CX0 P w K mg base N qual (defScope st) f cdv A outer s H E).nox (defBody st) t ∧ t { nx := fun _ H' => Q .non H', rt := Q } (start N vs) H) : FnOk P w K mg base CX0 (k + 1) f fd ps sp := by
  obtain ⟨oc, od, kV, doc, pm, an, cdv, ct, osl, rfl, lk, hcd⟩ := F.ex
  refine fn_of lk hcd S len fun A outer s H vs Q E hr hsp => ?_
  obtain ⟨t, h, q⟩ := hbody cdv A outer s H vs Q E hr hsp
  exact ⟨t, h.nox, q⟩
/-- how its arguments bind (no defaults): h is «fun _ _ _ _ _ _ us hl => match us, hl with | [_, _], _ => rfl», one _ a parameter -/
theorem Fun.binds {x qual : Str} {st : Stmt} {f : Addr} {fd : FuncData} {ps : List Str} (F : Fun K x qual st f fd)
    (h : ∀ (kV doc pm : Value) (an : Option Addr) (cdv ct : Value) (us : List Value), us.length = ps.length → bindArgs (PySem.W.fnOf x qual (defArgs st) (defBody st) (defScope st) .none kV doc pm an cdv ct) ⟨us, []⟩ = pure (ps.zip us)) : Binds K fd ps [] := by
  obtain ⟨oc, od, kV, doc, pm, an, cdv, ct, osl, rfl, lk, hcd⟩ := F.ex
  exact .all (h kV doc pm an cdv ct)
theorem fun_mk {x qual : Str} {st : Stmt} {f : Addr} {oc : Value} {od an : Option Addr} {osl : Array (Option Value)} {kV doc pm cdv ct : Value} (l : K.lookup f = some ⟨oc, od, .func (PySem.W.fnOf x qual (defArgs st) (defBody st) (defScope st) .none kV doc pm an cdv ct), osl⟩)
    (c : PySem.W.codeIn K cdv qual = true) (k : PySem.W.keepIn K (.ref f) = true) : Fun K x qual st f (PySem.W.fnOf x qual (defArgs st) (defBody st) (defScope st) .none kV doc pm an cdv ct) := ⟨⟨oc, od, kV, doc, pm, an, cdv, ct, osl, rfl, l, c⟩, k⟩
end
theorem hu_of {A : Around} {k : Nat} (hr : Room k A) : A.units + 1 < cLine := Nat.lt_of_le_of_lt (Nat.add_le_add_left (by decide : 1 ≤ 64) _) hr.units
theorem small1000 {n : Nat} (h : n ≤ 1000) : n < sizeLine := Nat.lt_of_le_of_lt h (by decide)

/-! ### expressions in short: the name that stands in the i-th slot -/
section
variable {X : Cx}
theorem pv (i : Nat) {x : Str} {pos : Pos} (hN : X.N[i]? = some x := by rfl) (hv : Vis X.env.scope x := by first | exact Or.inl rfl | exact Or.inr (Or.inl rfl) | exact Or.inr (Or.inr rfl)) (hd : (x == ("__debug__" : Str)) = false := by decide)
    (hcd : (x == ("__classdict__" : Str)) = false := by decide) : PE X (.Name x pos) (tVar i) := pe_var hN hv hd hcd
end

/-! ### tests -/
theorem iteF {A B : Prop} (h : B) : if false = true then A else B := by
  rw [if_neg Bool.false_ne_true]
  exact h
theorem iteT {A B : Prop} (h : A) : if true = true then A else B := by
  rw [if_pos rfl]
  exact h
theorem ite2 {c A B : Prop} [Decidable c] (h1 : c → A) (h2 : ¬ c → B) : if c then A else B := by
  by_cases h : c
  · rw [if_pos h]
    exact h1 h
  · rw [if_neg h]
    exact h2 h
theorem iteNS {c A B : Prop} [Decidable c] (hc : c) (h : B) : if (!decide c) = true then A else B := by
  rw [decide_eq_true hc]
  exact iteF h

/-! ### heaps -/
/-- all that was tracked is as it was -/
def Same (H H' : Hp) : Prop := ∀ b o, H b = some o → H' b = some o
theorem Same.refl (H : Hp) : Same H H := fun _ _ h => h
theorem Same.trans {H H1 H2 : Hp} (a : Same H H1) (b : Same H1 H2) : Same H H2 := fun c o h => b c o (a c o h)
theorem Same.free {H H' : Hp} (e : Same H H') {l : Addr} (h : H' l = Option.none) : H l = Option.none := by
  cases q : H l with
  | none => rfl
  | some o =>
    rw [e l o q] at h
    cases h
theorem Same.seq {K : PySem.W.Frag} {H H' : Hp} {a : Addr} {xs : List V} (e : Same H H') (h : SqL K H a xs) : SqL K H' a xs := by
  rcases h with (h | ⟨o, h⟩) | h
  · exact .inl (.inl (e _ _ h))
  · exact .inl (.inr ⟨o, e _ _ h⟩)
  · exact .inr h

section
variable {X : Cx}
theorem call_lenD : CallR X (.builtin "len") (fun xs H Q => ∃ a kvs, xs = [V.ref a] ∧ H a = some (.dK kvs) ∧ Q (.int kvs.length) H) := by
  intro pins s σ H xs us Q I r h
  obtain ⟨a, kvs, rfl, ha, q⟩ := h
  obtain ⟨u, rfl, ru⟩ := vals1 r
  cases ru
  exact d_len I (.inl ha) fun t s' I' => ⟨.int kvs.length, H, I', ⟨t, rfl⟩, q⟩
end
/-! ### a dict's pairs: keys that differ -/
section
variable {κ : Type} [DecidableEq κ]
theorem valV_not {kvs : List (κ × V)} {k : κ} (h : valV kvs k = none) : ¬ k ∈ kvs.map (·.1) := by
  intro m
  obtain ⟨p, hp, e⟩ := List.mem_map.mp m
  have q : (kvs.any fun kv => decide (kv.1 = k)) = true := List.any_eq_true.mpr ⟨p, hp, decide_eq_true e⟩
  rw [valV_any, h] at q
  exact absurd q (by simp)
theorem valV_in {kvs : List (κ × V)} {k : κ} {v : V} (h : valV kvs k = some v) : k ∈ kvs.map (·.1) := by
  have q : (kvs.any fun kv => decide (kv.1 = k)) = true := by
    rw [valV_any, h]
    all_goals rfl
  obtain ⟨p, hp, e⟩ := List.any_eq_true.mp q
  exact List.mem_map.mpr ⟨p, hp, of_decide_eq_true e⟩
theorem nd_snoc : ∀ {l : List κ} {k : κ}, l.Nodup → ¬ k ∈ l → (l ++ [k]).Nodup
  | [], k, _, _ => by simp
  | a :: r, k, h, hk => by
    obtain ⟨h1, h2⟩ := List.nodup_cons.mp h
    show (a :: (r ++ [k])).Nodup
    refine List.nodup_cons.mpr ⟨fun m => ?_, nd_snoc h2 fun m => hk (List.mem_cons.mpr (Or.inr m))⟩
    rcases List.mem_append.mp m with q | q
    · exact h1 q
    · exact hk (List.mem_cons.mpr (Or.inl (List.mem_singleton.mp q).symm))
theorem nd_putK {kvs : List (κ × V)} {k : κ} (v : V) (hn : (kvs.map (·.1)).Nodup) (h : valV kvs k = none) : ((putK kvs k v).map (·.1)).Nodup := by
  rw [putK_new v h, List.map_append]
  exact nd_snoc hn (valV_not h)
theorem dropK_pos {p : κ × V} {r : List (κ × V)} {k : κ} (e : p.1 = k) : dropK (p :: r) k = dropK r k := by
  unfold dropK
  rw [List.filter_cons, if_neg (by simp [e])]
theorem dropK_neg {p : κ × V} {r : List (κ × V)} {k : κ} (e : ¬ p.1 = k) : dropK (p :: r) k = p :: dropK r k := by
  unfold dropK
  rw [List.filter_cons, if_pos (by simp [e])]
theorem dropK_no : ∀ {kvs : List (κ × V)} {k : κ}, ¬ k ∈ kvs.map (·.1) → dropK kvs k = kvs
  | [], _, _ => rfl
  | p :: r, k, h => by
    have h' : ¬ k ∈ r.map (·.1) := fun m => by
      obtain ⟨q, hq, e⟩ := List.mem_map.mp m
      exact h (List.mem_map.mpr ⟨q, List.mem_cons.mpr (Or.inr hq), e⟩)
    rw [dropK_neg fun e => h (List.mem_map.mpr ⟨p, List.mem_cons.mpr (Or.inl rfl), e⟩), dropK_no h']
theorem dropK_mem {kvs : List (κ × V)} {k : κ} {p : κ × V} (h : p ∈ dropK kvs k) : p ∈ kvs := (List.mem_filter.mp h).1
theorem nd_dropK : ∀ {kvs : List (κ × V)} {k : κ}, (kvs.map (·.1)).Nodup → ((dropK kvs k).map (·.1)).Nodup
  | [], _, _ => List.nodup_nil
  | p :: r, k, h => by
    have h : (p.1 :: r.map (·.1)).Nodup := h
    obtain ⟨h1, h2⟩ := List.nodup_cons.mp h
    by_cases e : p.1 = k
    · rw [dropK_pos e]
      exact nd_dropK h2
    · rw [dropK_neg e]
      show (p.1 :: (dropK r k).map (·.1)).Nodup
      refine List.nodup_cons.mpr ⟨fun m => h1 ?_, nd_dropK h2⟩
      obtain ⟨q, hq, eq⟩ := List.mem_map.mp m
      exact List.mem_map.mpr ⟨q, dropK_mem hq, eq⟩
theorem dropK_len : ∀ {kvs : List (κ × V)} {k : κ}, (kvs.map (·.1)).Nodup → k ∈ kvs.map (·.1) → (dropK kvs k).length + 1 = kvs.length
  | [], _, _, m => by simp at m
  | p :: r, k, h, m => by
    have h : (p.1 :: r.map (·.1)).Nodup := h
    have m : k = p.1 ∨ k ∈ r.map (·.1) := List.mem_cons.mp m
    obtain ⟨h1, h2⟩ := List.nodup_cons.mp h
    by_cases e : p.1 = k
    · subst e
      rw [dropK_pos rfl, dropK_no h1]
      all_goals rfl
    · have m' : k ∈ r.map (·.1) := m.resolve_left fun z => e z.symm
      have q := dropK_len h2 m'
      rw [dropK_neg e, List.length_cons, List.length_cons]
      omega
end
end L2

set_option Elab.async false
set_option linter.all false
set_option maxRecDepth 100000
set_option maxHeartbeats 4000000
namespace L2
open PySem PySem.Spec PyProof.Rows
def clAcc (f : Str → Option Addr) : List (Str × NameKind) → List (Str × Addr) → List (Str × Addr)
  | [], acc => acc
  | (n, k) :: r, acc => clAcc f r (if (k == NameKind.free) = true then (match f n with | some a => (n, a) :: acc | none => acc) else acc)
theorem closureFor_free {scope : Scope} {env : Env} (h : ∀ y ∈ scope.names, y.2 = .free → ∃ c, env.cells.lookup y.1 = some c) :
    closureFor scope env = pure (clAcc (fun n => env.cells.lookup n) scope.names []) := by
  simp only [closureFor]
  generalize ([] : List (Str × Addr)) = acc
  generalize scope.names = ns at h
  induction ns generalizing acc with
  | nil => rfl
  | cons y r ih =>
    obtain ⟨n, k⟩ := y
    simp only [List.forIn_cons]
    have hr := fun z hz => h z (List.mem_cons_of_mem _ hz)
    by_cases hk : k = .free
    · subst hk
      obtain ⟨c, hc⟩ := h (n, .free) List.mem_cons_self rfl
      have hc : List.lookup n env.cells = some c := hc
      have e1 : cellOf env n = pure c := by unfold cellOf; rw [hc]
      have e2 : clAcc (fun n => env.cells.lookup n) ((n, NameKind.free) :: r) acc = clAcc (fun n => env.cells.lookup n) r ((n, c) :: acc) := by
        show clAcc _ r (if (NameKind.free == NameKind.free) = true then (match List.lookup n env.cells with | some a => (n, a) :: acc | none => acc) else acc) = _
        rw [if_pos (beq_self_eq_true _), hc]
      rw [e2, ← ih _ hr, e1]
      rfl
    · have hb : (k == NameKind.free) = false := by simpa using hk
      have e2 : clAcc (fun n => env.cells.lookup n) ((n, k) :: r) acc = clAcc (fun n => env.cells.lookup n) r acc := by
        show clAcc _ r (if (k == NameKind.free) = true then _ else acc) = _
        rw [hb, if_neg (by decide)]
      rw [e2, ← ih _ hr]
      simp only [hb, Bool.false_eq_true, if_false]
      rfl
theorem clAcc_sub {f : Str → Option Addr} : ∀ (ns : List (Str × NameKind)) (acc : List (Str × Addr)), (∀ x c, acc.lookup x = some c → f x = some c) → ∀ x c, (clAcc f ns acc).lookup x = some c → f x = some c
  | [], _, h, x, c, e => h x c e
  | (n, k) :: r, acc, h, x, c, e => by
    refine clAcc_sub r _ (fun y d q => ?_) x c e
    by_cases hk : (k == NameKind.free) = true
    · rw [if_pos hk] at q
      cases hf : f n with
      | none => rw [hf] at q; exact h y d q
      | some a =>
        rw [hf] at q
        simp only [List.lookup_cons] at q
        cases hy : y == n with
        | true => rw [hy] at q; rw [eq_of_beq hy, hf]; exact q
        | false => rw [hy] at q; exact h y d q
    · rw [if_neg hk] at q; exact h y d q
theorem clAcc_keep {f : Str → Option Addr} {x : Str} {c : Addr} (hf : f x = some c) : ∀ (ns : List (Str × NameKind)) (acc : List (Str × Addr)), acc.lookup x = some c → (clAcc f ns acc).lookup x = some c
  | [], _, h => h
  | (n, k) :: r, acc, h => by
    refine clAcc_keep hf r _ ?_
    by_cases hk : (k == NameKind.free) = true
    · rw [if_pos hk]
      cases hn : f n with
      | none => exact h
      | some a =>
        simp only [List.lookup_cons]
        cases hy : x == n with
        | true => rw [eq_of_beq hy, hn] at hf; exact hf
        | false => exact h
    · rw [if_neg hk]; exact h
theorem clAcc_get {f : Str → Option Addr} {x : Str} {c : Addr} (hf : f x = some c) : ∀ (ns : List (Str × NameKind)) (acc : List (Str × Addr)), (x, NameKind.free) ∈ ns → (clAcc f ns acc).lookup x = some c
  | [], _, h => by cases h
  | (n, k) :: r, acc, h => by
    rcases List.mem_cons.mp h with e | e
    · cases e
      refine clAcc_keep hf r _ ?_
      rw [if_pos (beq_self_eq_true _), hf]
      simp [List.lookup_cons]
    · exact clAcc_get hf r _ e
/-- the kinds of a block's names, behind the relabelling -/
def rlK (env : Env) (n : Str) (k : NameKind) : NameKind := if (k == NameKind.free && env.scope.kind == .function && env.kindOf n == some .cell) = true then .cell else k
theorem lookup_rl {env : Env} {x : Str} : ∀ names : List (Str × NameKind), (names.map fun (n, k) => if (k == NameKind.free && env.scope.kind == .function && env.kindOf n == some .cell) then (n, NameKind.cell) else (n, k)).lookup x = (names.lookup x).map (rlK env x)
  | [] => rfl
  | (n, k) :: r => by
    have e : (if (k == NameKind.free && env.scope.kind == .function && env.kindOf n == some .cell) = true then (n, NameKind.cell) else (n, k)) = (n, rlK env n k) := by
      unfold rlK; split <;> rfl
    rw [List.map_cons]
    show List.lookup x ((if (k == NameKind.free && env.scope.kind == .function && env.kindOf n == some .cell) = true then (n, NameKind.cell) else (n, k)) :: _) = _
    rw [e, List.lookup_cons, List.lookup_cons, lookup_rl r]
    cases hx : x == n with
    | true => rw [eq_of_beq hx]; rfl
    | false => rfl
theorem relabel_lookup {scope : Scope} {env : Env} (x : Str) : (relabel scope env).names.lookup x = (scope.names.lookup x).map (rlK env x) := lookup_rl scope.names
theorem relabel_open {scope : Scope} {env : Env} {x : Str} (hc : ∀ y ∈ scope.names, y.2 ≠ .cell) (h : (relabel scope env).names.lookup x = some .cell ∨ (relabel scope env).names.lookup x = some .free) : (x, NameKind.free) ∈ scope.names := by
  rw [relabel_lookup] at h
  cases e : scope.names.lookup x with
  | none => rw [e] at h; rcases h with h | h <;> cases h
  | some k =>
    have hm := PySem.mem_of_lookup e
    by_cases hk : k = .free
    · subst hk; exact hm
    · exfalso
      have hb : (k == NameKind.free) = false := by simpa using hk
      have : rlK env x k = k := by unfold rlK; rw [hb]; rfl
      rw [e] at h
      simp only [Option.map_some, this, Option.some.injEq] at h
      rcases h with h | h
      · exact hc _ hm h
      · exact hk h
theorem relabel_free {scope : Scope} {env : Env} {x : Str} (h : scope.names.lookup x = some .free) : (relabel scope env).names.lookup x = some .cell ∨ (relabel scope env).names.lookup x = some .free := by
  rw [relabel_lookup, h]
  simp only [Option.map_some, Option.some.injEq]
  unfold rlK
  split
  · exact .inl rfl
  · exact .inr rfl
theorem relabel_local {scope : Scope} {env : Env} {x : Str} (h : scope.names.lookup x = some .local) : (relabel scope env).names.lookup x = some .local := by
  rw [relabel_lookup, h]; rfl

/-! ### comprehensions -/
/-- how the block's names lie: nt names of its own first, then what it sees of the outer names, at the places fi -/
structure CompSc (N : List Str) (osc : Scope) (N' : List Str) (nt : Nat) (fi : List Nat) (scope : Scope) : Prop where
  kind : scope.kind = .function
  nocell : ∀ y ∈ scope.names, y.2 ≠ .cell
  loc : ∀ y ∈ scope.names, y.2 = .local → scope.names.lookup y.1 = some .local
  free : ∀ y ∈ scope.names, y.2 = .free → (osc.names.lookup y.1 = some .cell ∨ osc.names.lookup y.1 = some .free)
  len : nt ≤ N'.length
  out : fi.map (fun j => N[j]?) = (N'.drop nt).map some
  fr : ∀ x ∈ N'.drop nt, scope.names.lookup x = some .free
def inn (nt : Nat) (fi : List Nat) (σ : St) : St := List.replicate nt none ++ fi.map fun j => (σ[j]?).join
def cxIn (X : Cx) (N' : List Str) (scope : Scope) (C : Addr) (s₂ : Shared) (H₂ : Hp) (fp : List Addr) : Cx :=
  { X with N := N', s₀ := s₂, H₀ := H₂, env := compEnvC scope (clAcc (fun n => X.env.cells.lookup n) scope.names []) C X.env, outer := X.stack, ex := fp, fn := fun _ => false, pn := [], xe := fun _ _ => False }
def PIfs (X : Cx) (ifs : List Expr) (t : TT) : Prop :=
  ∀ (pins : List (Addr × Obj)) (s : Shared) (σ : St) (H : Hp) (Q : Bool → Hp → Prop), Inv X pins σ H s → t σ H Q →
    wpAny (model X.prog X.w) X.A (forIn ifs true fun c r => if r = true then do let ok ← isTrue c X.env (eval c X.env); pure (ForInStep.yield ok) else pure (ForInStep.yield r)) (TP X pins σ Q) X.xe s
def tYes : TT := fun _ H Q => Q true H
theorem pifs_nil {X : Cx} : PIfs X [] tYes := fun _ _ _ H _ I h => wpAny_tests_nil ⟨H, I, h⟩
theorem pifs_one {X : Cx} {c : Expr} {t : TT} (h : PT X c t) : PIfs X [c] t := fun pins s σ H Q I q => wpAny_tests_one (h pins s σ H Q I q)
/-- the block's turns: W is the word between two of them -/
def CompGo (J : It) (g : TG) (tc : TT) (te : TE) (p : Addr) (Q : VK) (σ0 : St) (H1 : Hp) : Prop := ∃ W : Nat → Nat → St → Hp → Prop, (∃ m, W 0 m σ0 (upd H1 p (.lst []))) ∧
  ∀ i m σ' H', W i m σ' H' → (J.stop i H' ∧ Q (.ref p) H') ∨ (J.go i H' ∧ ∀ x H2, J.yld i H' x H2 → g x σ' H2 fun σ2 H3 => tc σ2 H3 fun b H4 =>
    if b = true then te σ2 H4 fun y H5 => ∃ ys, H5 p = some (.lst ys) ∧ ys.length < sizeLine ∧ ∃ m', m' < m ∧ W (i + 1) m' σ2 (upd H5 p (.lst (ys ++ [y]))) else ∃ m', m' < m ∧ W (i + 1) m' σ2 H4)
def tComp (wi : TI) (nt : Nat) (fi : List Nat) (g : TG) (tc : TT) (te : TE) : TE := fun σ H Q => wi σ H fun J H1 => ∀ p, H1 p = none → CompGo J g tc te p Q (inn nt fi σ) H1

section
variable {X : Cx} {pins : List (Addr × Obj)} {σ : St} {H2 : Hp} {s2 : Shared} {N' : List Str} {nt : Nat} {fi : List Nat} {scope : Scope} {fp : List Addr}
theorem inn_get {i : Nat} {v : V} (h : (inn nt fi σ)[i]? = some (some v)) : ∃ j, nt ≤ i ∧ fi[i - nt]? = some j ∧ σ[j]? = some (some v) := by
  unfold inn at h
  by_cases hi : i < nt
  · rw [List.getElem?_append_left (by simpa using hi), List.getElem?_replicate] at h
    split at h <;> cases h
  · rw [List.getElem?_append_right (by simpa using hi), List.length_replicate, List.getElem?_map] at h
    cases e : fi[i - nt]? with
    | none => rw [e] at h; cases h
    | some j =>
      rw [e] at h
      refine ⟨j, by omega, rfl, ?_⟩
      have h : (σ[j]?).join = some v := Option.some.inj h
      cases q : σ[j]? with
      | none => rw [q] at h; cases h
      | some o => rw [q] at h; have h : o = some v := h; rw [h]
theorem in_start (I : Inv X pins σ H2 s2) (S : CompSc X.N X.env.scope N' nt fi scope) (f2 : ∀ b ∈ fp, FpOk X pins H2 b) (ho : ∀ b ∈ fp, ∃ o, s2.heap.get? b = some o) {h4 : Heap} {D C : Addr} {tk : Nat} {m : Str → Option Value}
    (hD : s2.heap.objs.size ≤ D) (hC : s2.heap.objs.size ≤ C) (hDC : D ≠ C) (kept : ∀ b o, s2.heap.get? b = some o → h4.get? b = some o) (hn : h4.Ns C m)
    (hl : h4.get? D = some { cls := .type "list", data := .seq ([] : List Value).toArray 0 }) :
    Inv (cxIn X N' scope C s2 H2 fp) [] (inn nt fi σ) (upd H2 D (.lst [])) { s2 with heap := h4, toks := tk } := by
  have hcl : ∀ x c, (cxIn X N' scope C s2 H2 fp).env.cells.lookup x = some c → X.env.cells.lookup x = some c := fun x c e => clAcc_sub scope.names [] (fun _ _ q => (nomatch q)) x c e
  have fs : ∀ b, b ∈ frs X.stack → b = X.env.locals ∨ b ∈ X.fs := fun b hb => List.mem_cons.mp (I.stkSub b hb)
  have nfs : ∀ b ∈ fp, b ∉ frs X.stack := fun b hb z => by
    obtain ⟨_, h1, h2, _⟩ := f2 b hb
    exact (fs b z).elim h1 h2
  have fpC : ∀ b ∈ fp, b ≠ C := fun b hb z => by
    obtain ⟨o, e⟩ := ho b hb
    exact absurd (Nat.lt_of_lt_of_le (Heap.lt_size e) (by rw [z]; exact hC)) (Nat.lt_irrefl _)
  have Hf : H2 D = none := I.hok.fresh hD
  have cD : ∀ x c, X.env.cells.lookup x = some c → c ≠ D := fun x c e z => by
    obtain ⟨v, q⟩ := I.cell x c e
    exact absurd (Nat.lt_of_lt_of_le q.lt (by rw [z]; exact hD)) (Nat.lt_irrefl _)
  refine ⟨⟨I.ok.mod, S.kind, I.ok.glob, I.ok.blt, hC, fun x y c h1 h2 => I.ok.inj x y c (hcl x c h1) (hcl y c h2), fun x hx => ?_, fun x c z => (nomatch z), I.ok.hd, I.ok.frames, .inl rfl, fun b hb => ⟨fpC b hb, fun x c e => (f2 b hb).2.2.2.2.1 x c (hcl x c e)⟩, I.bs,
      Nat.le_trans I.ok.bsz I.sz, fun b o e hb => ?_, nfs, I.stack, I.stkFree⟩, rfl, I.bare, Un.laid kept hD Hf, ⟨m, hn, fun i x v h1 h2 h3 => ?_⟩, fun x c e => ?_, ?_, fun x c e => ?_, fun p hp => (nomatch hp), ?_, ?_⟩
  · have hm := relabel_open S.nocell hx
    obtain ⟨c, e⟩ := I.ok.has x (S.free _ hm rfl)
    exact ⟨c, clAcc_get (f := fun n => X.env.cells.lookup n) e scope.names [] hm⟩
  · rcases (f2 b hb).2.2.2.1 with z | z
    · exact I.ok.noex b o e z
    · exact absurd (Nat.lt_of_lt_of_le (Heap.lt_size (I.ok.bs b o e).1) z) (Nat.lt_irrefl _)
  · obtain ⟨j, hi, hj, hv⟩ := inn_get h2
    have e1 : (N'.drop nt)[i - nt]? = some x := by
      rw [List.getElem?_drop, show nt + (i - nt) = i by omega]; exact h1
    have e2 : X.N[j]? = some x := by
      have q := congrArg (fun l => l[i - nt]?) S.out
      simp only [List.getElem?_map, hj, e1, Option.map_some, Option.some.injEq] at q
      exact q
    have hfr := S.fr x (List.mem_of_getElem? e1)
    have hm := PySem.mem_of_lookup hfr
    have hk := S.free _ hm rfl
    obtain ⟨mo, _, hlo⟩ := I.loc
    obtain ⟨u, ru, lk⟩ := hlo j x v e2 hv (.inr hk)
    refine ⟨u, ru, ?_⟩
    rcases lk with ⟨z, _⟩ | ⟨_, c, ec, q⟩
    · have z : X.env.scope.names.lookup x = some .local := z
      rcases hk with y | y
      · rw [z] at y; cases y
      · rw [z] at y; cases y
    · exact .inr ⟨relabel_free hfr, c, clAcc_get (f := fun n => X.env.cells.lookup n) ec scope.names [] hm, q.keeps kept⟩
  · obtain ⟨v, q⟩ := I.cell x c (hcl x c e)
    exact ⟨v, q.keeps kept⟩
  · show upd H2 D _ C = none
    rw [upd_ne (Ne.symm hDC)]
    exact I.hok.fresh hC
  · show upd H2 D _ c = none
    rw [upd_ne (cD x c (hcl x c e))]
    exact I.freeC x c (hcl x c e)
  · exact I.hok.laid kept hD ⟨Nat.zero_le _, [], 0, .nil, hl⟩
  · unfold inn
    show _ = N'.length
    have q := congrArg List.length S.out
    rw [List.length_map, List.length_map, List.length_drop] at q
    rw [List.length_append, List.length_replicate, List.length_map, q]
    have := S.len
    omega
theorem in_end {pi : List (Addr × Obj)} {C : Addr} {σ' : St} {H' : Hp} {s' : Shared} {h' : Heap} (I : Inv X pins σ H2 s2) (f2 : ∀ b ∈ fp, FpOk X pins H2 b) (J : Inv (cxIn X N' scope C s2 H2 fp) pi σ' H' s') (hC : s2.heap.objs.size ≤ C)
    (hsb : Heap.SameBut C s'.heap h') : Inv X pins σ H' { s' with heap := h' } := by
  have ne : ∀ b o, s2.heap.get? b = some o → b ≠ C := fun b o e z => absurd (Nat.lt_of_lt_of_le (Heap.lt_size e) (by rw [z]; exact hC)) (Nat.lt_irrefl _)
  have B : Un (frs X.stack) fp H2 H' s2.heap s'.heap := J.base
  have Hc : H' C = none := J.free
  refine I.call' (s' := { s' with heap := h' }) (ch := fp) J.os ⟨fun b o e n hb hx => (hsb.2 b (ne b o e)).trans (B.keep b o e n hb hx), fun b o e n hb hx => ?_, B.free, fun b o e hx => ?_, B.tups, B.frzs, B.tbls⟩ (fun a o e => ?_) J.bare fun b hb => ?_
  · obtain ⟨sl, q⟩ := B.slot b o e n hb hx
    exact ⟨sl, (hsb.2 b (ne b o e)).trans q⟩
  · obtain ⟨o', q⟩ := B.there b o e hx
    exact ⟨o', (hsb.2 b (ne b o e)).trans q⟩
  · refine (J.hok a o e).stay (fun b u hb q => (hsb.2 b ?_).trans q) (fun _ q => q) fun _ _ q => q
    rintro rfl
    rcases hb with rfl | hb
    · rw [Hc] at e; cases e
    · rw [Hc] at hb; cases hb
  · obtain ⟨_, h1, _, h3, h4, h5⟩ := f2 b hb
    exact ⟨h3, h1, h4, h5⟩
end

theorem comp_loop {Xi : Cx} {tg elt iter : Expr} {ifs : List Expr} {scope : Scope} {pos : Pos} {it D : Addr} {fp : List Addr} {tn : Nat → Heap → Prop} {J : It} {W : Nat → Nat → St → Hp → Prop} {R : Result → Shared → Prop} {s : Shared} {g : TG} {tc : TT} {te : TE} {Fin : Hp → Prop}
    (hx : Xi.xe = fun _ _ => False) (hcalm : Xi.calm = true) (T : Turn Xi.prog Xi.w Xi.K tg J fp it tn) (hg : PG Xi tg g) (hc : PIfs Xi ifs tc) (he : PE Xi elt te)
    (stat : ∀ {H' : Hp}, (∀ b ∈ fp, H' b = none) → ∀ b ∈ fp, FpOk Xi [] H' b)
    (turn : ∀ i m σ' H', W i m σ' H' → (J.stop i H' ∧ Fin H') ∨ (J.go i H' ∧ ∀ x H2, J.yld i H' x H2 → g x σ' H2 fun σ2 H3 => tc σ2 H3 fun b H4 =>
      if b = true then te σ2 H4 fun y H5 => ∃ ys, H5 D = some (.lst ys) ∧ ys.length < sizeLine ∧ ∃ m', m' < m ∧ W (i + 1) m' σ2 (upd H5 D (.lst (ys ++ [y]))) else ∃ m', m' < m ∧ W (i + 1) m' σ2 H4))
    (fin : ∀ σ' H' s', Inv Xi [] σ' H' s' → Fin H' → R (.ok .next) s') (i m : Nat) (σ : St) (H : Hp) (I : Inv Xi [] σ H s) (st : tn i s.heap) (fr : ∀ b ∈ fp, H b = none) (w : W i m σ H) :
    codeAny (model Xi.prog Xi.w) Xi.A (.compLoop (.ListComp elt [⟨tg, iter, ifs, 0⟩] scope pos) 0 (.ref it) (.ref D) Xi.env) R s := by
  refine codeAny_loop rfl (fun n s' => ∃ i σ' H', Inv Xi [] σ' H' s' ∧ tn i s'.heap ∧ (∀ b ∈ fp, H' b = none) ∧ W i n σ' H') (fun n s3 hI => ?_) m ⟨i, σ, H, I, st, fr, w⟩
  show wpAny _ Xi.A ((compTurn (.ListComp elt [⟨tg, iter, ifs, 0⟩] scope pos) 0 (.ref it) (.ref D) Xi.env).onRaise (fun x => do noteFrame x Xi.env; theTreesLotGoes x)) _ _ s3
  refine wpAny_noted ?_
  rw [compTurn_list]
  obtain ⟨i, σ3, H3, I3, st3, fr3, w3⟩ := hI
  have noE : ∀ {E' : Value → Shared → Prop} e s', Xi.xe e s' → E' e s' := fun e s' f => by rw [hx] at f; exact f.elim
  refine wpAny_bind (wpAny_standAt (wpAny_bind ?_))
  rcases turn i n σ3 H3 w3 with ⟨stop, qf⟩ | ⟨go, step⟩
  · refine thn (T.done Xi rfl rfl rfl hcalm i [] s3 σ3 H3 _ I3 (stat fr3) st3 stop) fun r s4 ⟨hr, I4⟩ => ?_
    subst hr
    exact wpAny_pure (fin σ3 H3 s4 I4 qf)
  · refine thn (T.item Xi rfl rfl rfl hcalm i [] s3 σ3 H3 _ I3 (stat fr3) st3 go) fun r s4 ⟨u, hr, h4⟩ => ?_
    subst hr
    refine wpAny_bind (thn h4 fun _ s5 ⟨x, H5, I5, r5, y5, st5, fr5⟩ => ?_)
    have I5' := I5.pinned (stat fr5) (T.obj _ _ st5)
    refine wpAny_bind (wpAny_mono (hg _ s5 σ3 H5 x u _ I5' r5 (step x H5 y5)) (fun _ s6 ⟨σ6, H6, I6, q6⟩ => ?_) noE)
    refine wpAny_bind (wpAny_mono (hc _ s6 σ6 H6 _ I6 q6) (fun ok s7 ⟨H7, I7, q7⟩ => ?_) noE)
    have again : ∀ {s8 : Shared} {H8 : Hp}, Inv Xi ([] ++ pinsAt fp s5.heap) σ6 H8 s8 → (∃ m', m' < n ∧ W (i + 1) m' σ6 H8) → ∃ m, m < n ∧ ∃ i σ' H', Inv Xi [] σ' H' s8 ∧ tn i s8.heap ∧ (∀ b ∈ fp, H' b = none) ∧ W i m σ' H' := fun {s8 H8} I8 n8 => by
      obtain ⟨m', hm, w8⟩ := n8
      refine ⟨m', hm, i + 1, σ6, H8, I8.unpinned, T.keep _ _ _ st5 fun b hb o e => (I8.pin (b, o) (List.mem_append_right _ (List.mem_append_right _ (mem_pinsAt hb e)))).1, fun b hb => ?_, w8⟩
      obtain ⟨o, e, d⟩ := T.obj _ _ st5 b hb
      exact (I8.pin (b, o) (List.mem_append_right _ (List.mem_append_right _ (mem_pinsAt hb e)))).2.1
    cases ok with
    | false => exact wpAny_pure ⟨rfl, again I7 q7⟩
    | true =>
      refine wpAny_bind (wpAny_bind (wpAny_mono (he _ s7 σ6 H7 _ I7 q7) (fun y s8 ⟨vy, H8, I8, r8, ys, e8, z8, q8⟩ => ?_) noE))
      refine wpAny_bind (wpAny_mono (mt_append _ s8 σ6 H8 (.ref D) [vy] (.ref D) [y] (fun _ H9 => ∃ m', m' < n ∧ W (i + 1) m' σ6 H9) I8 rfl (.cons r8 .nil) ⟨D, ys, vy, rfl, rfl, e8, z8, q8⟩) (fun _ s9 ⟨_, H9, I9, _, q9⟩ => ?_) noE)
      exact wpAny_pure (wpAny_pure ⟨rfl, again I9 q9⟩)

section
variable {X : Cx} {tg iter elt : Expr} {ifs : List Expr} {scope : Scope} {pos : Pos} {N' : List Str} {nt : Nat} {fi : List Nat} {wi : TI} {g : TG} {tc : TT} {te : TE}
theorem comp_any {use : Option (Value → Sem Unit)} {cpos : Pos} (S : CompSc X.N X.env.scope N' nt fi scope) (hcalm : X.calm = true) (hi : PI X tg iter wi) (hg : ∀ C s H fp, PG (cxIn X N' scope C s H fp) tg g) (hc : ∀ C s H fp, PIfs (cxIn X N' scope C s H fp) ifs tc)
    (he : ∀ C s H fp, PE (cxIn X N' scope C s H fp) elt te) (hs : ∀ x, foldedSetIterable iter X.env x = pure x) {pins : List (Addr × Obj)} {s : Shared} {σ : St} {H : Hp} {Q : VK} {Q' : Value → Shared → Prop} (I : Inv X pins σ H s) (h : tComp wi nt fi g tc te σ H Q)
    (fin : ∀ (D C : Addr) (H' : Hp) (s' : Shared), Q (.ref D) H' → (∃ m, s'.heap.Ns C m) → FpOk X pins H' C → (∀ h', Heap.SameBut C s'.heap h' → Inv X pins σ H' { s' with heap := h' }) → compPost (model X.prog X.w) X.A X.xe use Q' (.ref D) C (.ok .next) s') :
    wpAny (model X.prog X.w) X.A (comprehension (.ListComp elt [⟨tg, iter, ifs, 0⟩] scope pos) scope X.env cpos (newList []) false (eval iter X.env) use) Q' X.xe s := by
  refine wpAny_comprehension_free (use := use) rfl hs (closureFor_free fun y hy hf => I.ok.has y.1 (S.free y hy hf)) S.kind S.loc (thn (hi pins s σ H _ I h) fun v s1 h1 => thn h1 fun itv s2 h2 => ?_)
  obtain ⟨it, fp, tn, J, H2, e, I2, T, st2, f2, q⟩ := h2
  subst e
  refine wpAny_newObj_type (wpAny_newFunctionEnv S.nocell (by intro y hy; simp at hy) (fun h₁ hns₁ hsb₁ => ?_) S.kind)
  dsimp only at hns₁ hsb₁ ⊢
  generalize hH2 : s2.heap.push { cls := .type "list", dict := none, data := .seq ([] : List Value).toArray } = HH at hns₁ hsb₁ ⊢
  have hC : HH.objs.size = s2.heap.objs.size + 1 := by rw [← hH2, Heap.size_push]
  have hDC : s2.heap.objs.size ≠ HH.objs.size := by rw [hC]; exact Nat.ne_of_lt (Nat.lt_succ_self _)
  have hCle : s2.heap.objs.size ≤ HH.objs.size := by rw [hC]; exact Nat.le_succ _
  have old : ∀ b o, s2.heap.get? b = some o → h₁.get? b = some o := fun b o e =>
    hsb₁.extBut b o (by rw [hC]; exact Nat.ne_of_lt (Nat.lt_succ_of_lt (Heap.lt_size e))) (Heap.get?_push_of_some _ (hH2 ▸ Heap.get?_push_of_some _ e))
  have hacc : h₁.get? s2.heap.objs.size = some { cls := .type "list", data := .seq ([] : List Value).toArray 0 } := hsb₁.extBut _ _ hDC (Heap.get?_push_of_some _ (hH2 ▸ Heap.get?_push_size _ rfl))
  obtain ⟨W, ⟨m0, w0⟩, turn⟩ := q s2.heap.objs.size I2.fresh
  have J0 := in_start (tk := s2.toks + ([] : List (Str × Value)).length) I2 S f2 (fun b hb => let ⟨o, e, _⟩ := T.obj 0 _ st2 b hb; ⟨o, e⟩) (Nat.le_refl _) hCle hDC old hns₁ hacc
  have t0 : tn 0 h₁ := T.keep _ _ _ st2 fun b _ o e => old b o e
  have fr0 : ∀ b ∈ fp, upd H2 s2.heap.objs.size (.lst []) b = none := fun b hb => by
    obtain ⟨o, e, _⟩ := T.obj 0 _ st2 b hb
    rw [upd_ne (Nat.ne_of_lt (Heap.lt_size e))]
    exact (f2 b hb).1
  have stat : ∀ {H' : Hp}, (∀ b ∈ fp, H' b = none) → ∀ b ∈ fp, FpOk (cxIn X N' scope HH.objs.size s2 H2 fp) [] H' b := fun {H'} hn b hb => by
    have z := J0.ok.exf b hb
    exact ⟨hn b hb, z.1, J0.ok.exfs b hb, .inl hb, z.2, fun p hp => (nomatch hp)⟩
  have loop := comp_loop (Xi := cxIn X N' scope HH.objs.size s2 H2 fp) (iter := iter) (scope := scope) (pos := pos) (R := compPost (model X.prog X.w) X.A X.xe use Q' (.ref s2.heap.objs.size) HH.objs.size) (s := { s2 with heap := h₁, toks := s2.toks + ([] : List (Str × Value)).length })
    (Fin := fun H' => Q (.ref s2.heap.objs.size) H') rfl hcalm T (hg _ _ _ _) (hc _ _ _ _) (he _ _ _ _) stat turn (fun σ' H' s' J' q' => ?_) 0 m0 _ _ J0 t0 fr0 w0
  · exact codeAny_compStart_list loop (T.self _ 0 _ _ _ t0 loop)
  · obtain ⟨m', hn', _⟩ := J'.loc
    exact fin _ _ H' s' q' ⟨m', hn'⟩ (I2.fpOk hCle J'.free) fun h' hsb => in_end I2 f2 J' hCle hsb
theorem pe_comp (S : CompSc X.N X.env.scope N' nt fi scope) (hcalm : X.calm = true) (hi : PI X tg iter wi) (hg : ∀ C s H fp, PG (cxIn X N' scope C s H fp) tg g) (hc : ∀ C s H fp, PIfs (cxIn X N' scope C s H fp) ifs tc)
    (he : ∀ C s H fp, PE (cxIn X N' scope C s H fp) elt te) (hs : ∀ x, foldedSetIterable iter X.env x = pure x := by intro _; rfl) : PE X (.ListComp elt [⟨tg, iter, ifs, 0⟩] scope pos) (tComp wi nt fi g tc te) := by
  intro pins s σ H Q I h
  rw [eval_ListComp]
  exact comp_any (use := none) S hcalm hi hg hc he hs I h fun D C H' s' q ⟨m, hn⟩ _ hI => ⟨m, hn, fun h' hsb => ⟨.ref D, H', hI h' hsb, rfl, q⟩⟩
/-- name = [comprehension], where the store comes ahead of the block's end -/
theorem ps_setC {i : Nat} {y : Str} {py spos : Pos} (hN : X.N.Nodup) (hi' : X.N[i]? = some y) (hy : X.env.scope.names.lookup y = some .local) (S : CompSc X.N X.env.scope N' nt fi scope) (hcalm : X.calm = true) (hi : PI X tg iter wi)
    (hg : ∀ C s H fp, PG (cxIn X N' scope C s H fp) tg g) (hc : ∀ C s H fp, PIfs (cxIn X N' scope C s H fp) ifs tc) (he : ∀ C s H fp, PE (cxIn X N' scope C s H fp) elt te)
    (hs : ∀ x, foldedSetIterable iter X.env x = pure x := by intro _; rfl)
    (hsw : swapsWith (.ListComp elt [⟨tg, iter, ifs, 0⟩] scope pos) (some (.Name y py)) spos.line X.env = pure true := by rfl) :
    PS X (.Assign [.Name y py] (.ListComp elt [⟨tg, iter, ifs, 0⟩] scope pos) spos) (tAsg (tComp wi nt fi g tc te) (gName i)) := by
  intro pins s σ H D I h
  rw [exec_Assign_Name_used _ _ _ _ hsw]
  refine wpAny_bind (wpAny_standAt (wpAny_bind ?_))
  show wpAny _ X.A (do let _ ← comprehension (.ListComp elt [⟨tg, iter, ifs, 0⟩] scope pos) scope X.env _ (newList []) false (eval iter X.env) (some (assign (.Name y py) X.env))) _ _ s
  refine wpAny_bind (wpAny_mono (comp_any (use := some (assign (.Name y py) X.env)) (Q' := fun _ s' => SP X pins D .next s') S hcalm hi hg hc he hs I h fun p C H' s' q ⟨m, hn⟩ hCL hI => ?_) (fun _ s' hq => wpAny_pure (wpAny_pure hq)) fun _ _ e => e)
  have I' : Inv X pins σ H' s' := by
    have := hI s'.heap (.refl ..)
    exact this
  show wpAny _ X.A (assign (.Name y py) X.env (.ref p)) _ _ _
  refine wpAny_assign_Name (store_ok2 I' hN hi' (.inl hy) (v := .ref p) rfl (fun s'' I'' hsb => ?_) (.inr hy))
  obtain ⟨a, sb, ha⟩ := hsb
  obtain ⟨c0, c1, c2, c3, c4, c5⟩ := hCL
  have ne : C ≠ a := by
    rcases ha with z | z
    · rw [z]; exact c1
    · exact Ne.symm (c4 y a z)
  exact ⟨m, hn.sameBut sb ne, fun h' hs' => ⟨_, H', I''.turned (t' := s''.toks) (fun b o hb e => (hs'.2 b hb).trans e) c0 c1 c3 c4 c5, q⟩⟩
end
end L2

set_option Elab.async false
set_option linter.all false
set_option maxRecDepth 100000
set_option maxHeartbeats 4000000
namespace L2
open PySem PySem.Spec PyProof.Rows

/-! ### a def of the text: where it stands, what it promises -/
structure Src (K : PySem.W.Frag) (mg : Str → Option Value) (x : Str) (st : Stmt) (ps : List Str) : Prop where
  ex : ∃ f fd, Fun K x x st f fd ∧ mg x = some (.ref f) ∧ Binds K fd ps []
theorem src_mk {K : PySem.W.Frag} {h : Heap} {mg : Str → Option Value} {x : Str} {st : Stmt} {ps : List Str} {f : Addr} {od an : Option Addr} {sl : Array (Option Value)} {oc kV dc pm cd ct : Value} (X : K.In h) (G : h.Ns mainGlobals mg)
    (a : PySem.W.nsIn K mainGlobals x = some (some (.ref f))) (l : K.lookup f = some ⟨oc, od, .func (PySem.W.fnOf x x (defArgs st) (defBody st) (defScope st) .none kV dc pm an cd ct), sl⟩) (c : PySem.W.codeIn K cd x = true) (k : PySem.W.keepIn K (.ref f) = true)
    (hb : ∀ (kV doc pm : Value) (an : Option Addr) (cdv ct : Value) (us : List Value), us.length = ps.length → bindArgs (PySem.W.fnOf x x (defArgs st) (defBody st) (defScope st) .none kV doc pm an cdv ct) ⟨us, []⟩ = pure (ps.zip us)) : Src K mg x st ps := by
  have F := fun_mk (st := st) l c k
  exact ⟨f, _, F, PySem.W.mg_of X G a, F.binds hb⟩
structure Def (P : Program) (w : World) (K : PySem.W.Frag) (mg : Str → Option Value) (base : Heap) (k : Nat) (x : Str) (ps : List Str) (sp : Sp) : Prop where
  ex : ∃ f fd, FnOk P w K mg base CX0 k f fd ps sp ∧ mg x = some (.ref f) ∧ PySem.W.keepIn K (.ref f) = true ∧ Binds K fd ps []
section
variable {P : Program} {w : World} {K : PySem.W.Frag} {mg : Str → Option Value} {base : Heap}
theorem def_of {x : Str} {st : Stmt} {N ps : List Str} {k : Nat} {sp : Sp} (F : Src K mg x st ps) (S : FnScope N ps (defScope st)) (len : ∀ vs H Q E, sp vs H Q E → vs.length = ps.length)
    (hbody : ∀ (f : Addr) (cdv : Value) (A : Around) (outer : List Env) (s : Shared) (H : Hp) (vs : List V) (Q : VK) (E : XK), Room k (A.deeper (envOfC x (defScope st) s.heap.objs.size f cdv)) → sp vs H Q E →
      ∃ t, PSs (cxOf CX0 P w K mg base N x (defScope st) f cdv A outer s H E).nox (defBody st) t ∧ t { nx := fun _ H' => Q .non H', rt := Q } (start N vs) H) : Def P w K mg base (k + 1) x ps sp := by
  obtain ⟨f, fd, F, m, b⟩ := F.ex
  exact ⟨f, fd, F.ok S len (hbody f), m, F.kp, b⟩
end
theorem pe_def {X : Cx} {k : Nat} {x : Str} {ps : List Str} {sp : Sp} {p pos : Pos} {e : Expr} {es : List Expr} {t : TA} (D : Def X.prog X.w X.K X.mg X.base k x ps sp) (hr : Room k X.A) (hg : Gl X x) (ha : PA X (e :: es) t)
    (hdb : (x == ("__debug__" : Str)) = false := by decide) (he : starEach (e :: es) X.env = (false, eval e X.env) :: starEach es X.env := by rfl) (hpl : (backTo pos (starEach es X.env)).any (·.1) = false := by rfl) :
    PE X (.Call (.Name x p) (e :: es) [] pos) (tCall sp [] E0 t) := by
  obtain ⟨f, fd, G, m, kp, b⟩ := D.ex
  exact pe_call G hr hg m kp b .nil pass0 ha hdb he hpl
theorem pe_globI {X : Cx} {x : Str} {v : V} {pos : Pos} (hg : Gl X x) (hm : ∃ u, X.mg x = some u ∧ RelV v u) (hd : (x == ("__debug__" : Str)) = false := by decide) : PE X (.Name x pos) (tC v) := by
  obtain ⟨u, hm, r⟩ := hm
  exact pe_glob hg hm r hd

/-! ### isinstance with a built-in type -/
def rIsi (K : PySem.W.Frag) : List V → Hp → VK → Prop := fun xs H Q => ∃ v T t b, xs = [v, .ty T] ∧ TyOf K H v t ∧ PySem.W.kitOne K t (.type T) = some b ∧ Q (.bl b) H
theorem call_isi {X : Cx} : CallR X (.builtin "isinstance") (rIsi X.K) := by
  intro pins s σ H xs us Q I r h
  obtain ⟨v, T, t, b, rfl, ty, e, q⟩ := h
  obtain ⟨u, w', rfl, ru, rw'⟩ := r.two
  have rw' : w' = Value.type T := rw'
  subst rw'
  exact isinst_ok I ru ty e fun tk => ⟨.bl b, H, I.tok tk, rfl, q⟩
theorem isi_ii {K : PySem.W.Frag} : PySem.W.kitOne K (.type "int") (.type "int") = some true := by rfl
theorem isi_ll {K : PySem.W.Frag} : PySem.W.kitOne K (.type "list") (.type "list") = some true := by rfl
theorem isi_tt {K : PySem.W.Frag} : PySem.W.kitOne K (.type "tuple") (.type "tuple") = some true := by rfl
theorem isi_ss {K : PySem.W.Frag} : PySem.W.kitOne K (.type "str") (.type "str") = some true := by rfl
theorem isi_ib {K : PySem.W.Frag} : PySem.W.kitOne K (.type "int") (.type "bool") = some false := by rfl
theorem isi_ni {K : PySem.W.Frag} : PySem.W.kitOne K (.type "NoneType") (.type "int") = some false := by rfl

/-! ### == and != of two lists of plain items -/
def plV : V → Bool
  | .non => true
  | .int _ => true
  | .str _ => true
  | _ => false
theorem plV.flat : ∀ {x : V}, plV x = true → flatV x = true
  | .non, _ => rfl
  | .int _, _ => rfl
  | .str _, _ => rfl
theorem eqV_pl : ∀ {x y : V}, plV x = true → plV y = true → eqV x y = decide (x = y)
  | .non, .non, _, _ => by simp [eqV]
  | .non, .int _, _, _ => by simp [eqV]
  | .non, .str _, _, _ => by simp [eqV]
  | .int _, .non, _, _ => by simp [eqV]
  | .int a, .int b, _, _ => by simp [eqV]; rw [Bool.eq_iff_iff]; simp
  | .int _, .str _, _, _ => by simp [eqV]
  | .str _, .non, _, _ => by simp [eqV]
  | .str _, .int _, _, _ => by simp [eqV]
  | .str a, .str b, _, _ => by simp [eqV]; rw [Bool.eq_iff_iff]; simp
def eqN (xs ys : List V) (j : Nat) : Bool := match xs[j]?, ys[j]? with
  | some a, some b => eqV a b
  | _, _ => true
theorem eqN_all : ∀ {xs ys : List V}, xs.length = ys.length → xs.all plV = true → ys.all plV = true → (List.range xs.length).all (eqN xs ys) = decide (xs = ys)
  | [], [], _, _, _ => rfl
  | x :: xs, y :: ys, hl, hx, hy => by
    rw [List.all_cons, Bool.and_eq_true] at hx hy
    have ih := eqN_all (xs := xs) (ys := ys) (by simpa using hl) hx.2 hy.2
    rw [List.length_cons, List.range_succ_eq_map, List.all_cons, List.all_map]
    have e1 : eqN (x :: xs) (y :: ys) 0 = decide (x = y) := by
      show eqV x y = _
      exact eqV_pl hx.1 hy.1
    have e2 : (List.range xs.length).all (eqN (x :: xs) (y :: ys) ∘ Nat.succ) = (List.range xs.length).all (eqN xs ys) := rfl
    rw [e1, e2, ih, Bool.eq_iff_iff]
    simp
  | [], _ :: _, h, _, _ => by simp at h
  | _ :: _, [], h, _, _ => by simp at h
def rEqL (K : PySem.W.Frag) : R2 := fun x y H Q => ∃ a b xs ys, x = .ref a ∧ y = .ref b ∧ SqL K H a xs ∧ SqL K H b ys ∧ xs.all plV = true ∧ ys.all plV = true ∧ Q (.bl (decide (xs = ys))) H
def rNeL (K : PySem.W.Frag) : R2 := fun x y H Q => ∃ a b xs ys, x = .ref a ∧ y = .ref b ∧ SqL K H a xs ∧ SqL K H b ys ∧ xs.all plV = true ∧ ys.all plV = true ∧ Q (.bl (!decide (xs = ys))) H
section
variable {X : Cx}
theorem vals_eqAt {A : Around} {s : Shared} {xs ys : List V} {us ws : List Value} (r : Vals xs us) (q : Vals ys ws) (hx : xs.all plV = true) (hy : ys.all plV = true) :
    ∀ j (h1 : j < us.toArray.size) (h2 : j < ws.toArray.size), SeqAt.EqAt A s us.toArray[j] ws.toArray[j] (eqN xs ys j) := by
  intro j h1 h2
  have l1 := r.length
  have l2 := q.length
  have j1 : j < xs.length := by simpa [l1] using h1
  have j2 : j < ys.length := by simpa [l2] using h2
  have e1 : xs[j]? = some xs[j] := List.getElem?_eq_getElem j1
  have e2 : ys[j]? = some ys[j] := List.getElem?_eq_getElem j2
  obtain ⟨u, hu, ru⟩ := r.get e1
  obtain ⟨v, hv, rv⟩ := q.get e2
  have a1 : us.toArray[j] = u := by
    have : us[j]? = some us.toArray[j] := by simp
    rw [hu] at this; exact (Option.some.inj this).symm
  have a2 : ws.toArray[j] = v := by
    have : ws[j]? = some ws.toArray[j] := by simp
    rw [hv] at this; exact (Option.some.inj this).symm
  rw [a1, a2]
  have e3 : eqN xs ys j = eqV xs[j] ys[j] := by unfold eqN; rw [e1, e2]
  rw [e3]
  exact eqAt_V ru rv (plV.flat (List.all_eq_true.mp hx _ (List.getElem_mem j1))) (plV.flat (List.all_eq_true.mp hy _ (List.getElem_mem j2)))
theorem op_eqL (hu : X.A.units + 1 < cLine) : OpR X (compareOp .Eq) (rEqL X.K) := by
  intro pins s σ H x y v u Q I rx ry h
  obtain ⟨a, b, xs, ys, rfl, rfl, ha, hb, px, py, q⟩ := h
  cases rx
  cases ry
  obtain ⟨its, r, pl, hz⟩ := I.list ha
  obtain ⟨its2, r2, pl2, hz2⟩ := I.list hb
  have l1 := r.length
  have l2 := r2.length
  have q : Q (.bl (decide (xs = ys))) H := q
  by_cases hl : xs.length = ys.length
  · refine SeqAt.eq_listAt (e := eqN xs ys) pl.isList pl2.isList (by simp; omega) (by omega) (vals_eqAt r r2 px py) ⟨.bl _, H, I, rfl, ?_⟩
    rw [show its.toArray.size = xs.length by simp [l1], eqN_all hl px py]
    exact q
  · refine SeqAt.eq_list_lengthsAt pl.isList pl2.isList (by simp; omega) (by omega) ⟨.bl _, H, I, rfl, ?_⟩
    rw [decide_eq_false (fun e => hl (by rw [e]))] at q
    exact q
theorem op_neL (hu : X.A.units + 1 < cLine) : OpR X (compareOp .NotEq) (rNeL X.K) := by
  intro pins s σ H x y v u Q I rx ry h
  obtain ⟨a, b, xs, ys, rfl, rfl, ha, hb, px, py, q⟩ := h
  cases rx
  cases ry
  obtain ⟨its, r, pl, hz⟩ := I.list ha
  obtain ⟨its2, r2, pl2, hz2⟩ := I.list hb
  have l1 := r.length
  have l2 := r2.length
  have q : Q (.bl (!decide (xs = ys))) H := q
  by_cases hl : xs.length = ys.length
  · refine SeqAt.RcNeAt.lists (e := eqN xs ys) pl.isList pl2.isList (by simp; omega) (by omega) (vals_eqAt r r2 px py) _ _ _ _ ⟨.bl _, H, I, rfl, ?_⟩
    rw [show its.toArray.size = xs.length by simp [l1], eqN_all hl px py]
    exact q
  · refine SeqAt.RcNeAt.lists_lengths pl.isList pl2.isList (by simp; omega) (by omega) _ _ _ _ ⟨.bl _, H, I, rfl, ?_⟩
    rw [decide_eq_false (fun e => hl (by rw [e]))] at q
    exact q
end

/-! ### two statements with a word between them -/
def tMid (t u : TS) : TS := fun D σ H => ∃ M : St → Hp → Prop, t { D with nx := M } σ H ∧ ∀ σ' H', M σ' H' → u D σ' H'
theorem pss_mid {X : Cx} {st : Stmt} {rest : List Stmt} {t u : TS} (h1 : PS X st t) (h2 : PSs X rest u) : PSs X (st :: rest) (tMid t u) := by
  intro pins s σ H D I h
  obtain ⟨M, h, hM⟩ := h
  refine wpAny_execs_cons (thn (h1 pins s σ H { D with nx := M } I h) fun f s1 q => ?_)
  cases f with
  | next =>
    obtain ⟨σ', H', I', q⟩ := q
    exact h2 pins s1 σ' H' D I' (hM σ' H' q)
  | ret v => exact q
  | brk => exact q
  | cont => exact q

/-! ### heaps -/
theorem same_new {H : Hp} {p : Addr} (h : H p = none) (o : HO) : Same H (upd H p o) := fun b u q => by rw [upd_ne (ne_of_none q h)]; exact q
theorem same_upd {H H' : Hp} {p : Addr} (s : Same H H') (h : H p = none) (o : HO) : Same H (upd H' p o) := fun b u q => by rw [upd_ne (ne_of_none q h)]; exact s b u q
theorem small {n : Nat} (h : n ≤ 1000) : n ≤ sizeLine := Nat.le_of_lt (small1000 h)

/-! ### comprehensions whose test and element leave the heap as it is -/
def irng (lo : Int) (n : Nat) : List Int := (List.range n).map fun (i : Nat) => lo + (i : Int)
theorem irng_snoc (lo : Int) (n : Nat) : irng lo (n + 1) = irng lo n ++ [lo + n] := by
  unfold irng; rw [List.range_succ, List.map_append]; rfl
theorem mem_irng {lo : Int} {n : Nat} {x : Int} : x ∈ irng lo n ↔ lo ≤ x ∧ x < lo + n := by
  unfold irng
  rw [List.mem_map]
  constructor
  · rintro ⟨i, hi, rfl⟩
    have := List.mem_range.mp hi
    omega
  · intro h
    exact ⟨(x - lo).toNat, List.mem_range.mpr (by omega), by omega⟩
theorem irng_length (lo : Int) (n : Nat) : (irng lo n).length = n := by unfold irng; simp
theorem comp_range {lo : Int} {n : Nat} {rest : St} {tc : TT} {te : TE} {p : Addr} {H : Hp} {Q : VK} {σ0 : St} (Pt : Int → Bool) (F : Int → V) (hn : n ≤ 1000) (h0 : ∃ t, σ0 = t :: rest)
    (hc : ∀ x ys (R : Bool → Hp → Prop), lo ≤ x → x < lo + n → R (Pt x) (upd H p (.lst ys)) → tc (some (.int x) :: rest) (upd H p (.lst ys)) R)
    (he : ∀ x ys (R : VK), lo ≤ x → x < lo + n → Pt x = true → R (F x) (upd H p (.lst ys)) → te (some (.int x) :: rest) (upd H p (.lst ys)) R)
    (hq : Q (.ref p) (upd H p (.lst (((irng lo n).filter Pt).map F)))) :
    CompGo (Itr lo n) (gName 0) tc te p Q σ0 H := by
  have len : ∀ i, (((irng lo i).filter Pt).map F).length ≤ i := fun i => by
    rw [List.length_map]
    exact Nat.le_trans (List.length_filter_le _ _) (by rw [irng_length]; exact Nat.le_refl _)
  refine ⟨fun i m σ' H' => m = n - i ∧ i ≤ n ∧ (∃ t, σ' = t :: rest) ∧ H' = upd H p (.lst (((irng lo i).filter Pt).map F)), ⟨n, by simp, Nat.zero_le _, h0, rfl⟩, ?_⟩
  rintro i m σ' H' ⟨rfl, hi, ⟨t, rfl⟩, rfl⟩
  by_cases hlt : i < n
  · refine .inr ⟨hlt, fun x H2 y => ?_⟩
    obtain ⟨e1, e2⟩ := y
    subst e1 e2
    show tc (some (.int (lo + i)) :: rest) _ _
    refine hc (lo + i) _ _ (by omega) (by omega) ?_
    have e3 : irng lo (i + 1) = irng lo i ++ [lo + i] := irng_snoc lo i
    cases hp : Pt (lo + i) with
    | true =>
      rw [if_pos rfl]
      refine he (lo + i) _ _ (by omega) (by omega) hp ?_
      refine ⟨_, upd_same, Nat.lt_of_le_of_lt (len i) (small1000 (by omega)), n - (i + 1), by omega, rfl, by omega, ⟨_, rfl⟩, ?_⟩
      rw [upd_upd, e3, List.filter_append, List.map_append, List.filter_cons, if_pos hp]
      rfl
    | false =>
      rw [if_neg (by decide)]
      refine ⟨n - (i + 1), by omega, rfl, by omega, ⟨_, rfl⟩, ?_⟩
      rw [e3, List.filter_append, List.filter_cons, if_neg (by rw [hp]; decide), List.filter_nil, List.append_nil]
  · have e : i = n := by omega
    subst e
    exact .inl ⟨Nat.le_refl _, hq⟩
theorem comp_list {K : PySem.W.Frag} {a : Addr} {xs : List V} {rest : St} {tc : TT} {te : TE} {p : Addr} {H : Hp} {Q : VK} {σ0 : St} (Pt : V → Bool) (F : V → V) (hn : xs.length ≤ 1000) (hS : SqL K H a xs) (hp : H p = none) (h0 : ∃ t, σ0 = t :: rest)
    (hc : ∀ x ys (R : Bool → Hp → Prop), x ∈ xs → R (Pt x) (upd H p (.lst ys)) → tc (some x :: rest) (upd H p (.lst ys)) R)
    (he : ∀ x ys (R : VK), x ∈ xs → Pt x = true → R (F x) (upd H p (.lst ys)) → te (some x :: rest) (upd H p (.lst ys)) R)
    (hq : Q (.ref p) (upd H p (.lst ((xs.filter Pt).map F)))) :
    CompGo (Itl K a) (gName 0) tc te p Q σ0 H := by
  have len : ∀ i, (((xs.take i).filter Pt).map F).length ≤ xs.length := fun i => by
    rw [List.length_map]
    exact Nat.le_trans (List.length_filter_le _ _) (by rw [List.length_take]; omega)
  have S : ∀ ys, SqL K (upd H p (.lst ys)) a xs := fun ys => (same_new hp _).seq hS
  refine ⟨fun i m σ' H' => m = xs.length - i ∧ i ≤ xs.length ∧ (∃ t, σ' = t :: rest) ∧ H' = upd H p (.lst (((xs.take i).filter Pt).map F)), ⟨xs.length, by simp, Nat.zero_le _, h0, rfl⟩, ?_⟩
  rintro i m σ' H' ⟨rfl, hi, ⟨t, rfl⟩, rfl⟩
  by_cases hlt : i < xs.length
  · refine .inr ⟨⟨xs, xs[i], S _, by simp [hlt]⟩, fun x H2 y => ?_⟩
    obtain ⟨e1, y⟩ := y
    subst e1
    have e2 := y xs (S _)
    have hx : x ∈ xs := List.mem_of_getElem? e2
    show tc (some x :: rest) _ _
    refine hc x _ _ hx ?_
    have e3 : xs.take (i + 1) = xs.take i ++ [x] := by rw [List.take_add_one, e2]; rfl
    cases hp : Pt x with
    | true =>
      rw [if_pos rfl]
      refine he x _ _ hx hp ?_
      refine ⟨_, upd_same, Nat.lt_of_le_of_lt (len i) (small1000 hn), xs.length - (i + 1), by omega, rfl, by omega, ⟨_, rfl⟩, ?_⟩
      rw [upd_upd, e3, List.filter_append, List.map_append, List.filter_cons, if_pos hp]
      rfl
    | false =>
      rw [if_neg (by decide)]
      refine ⟨xs.length - (i + 1), by omega, rfl, by omega, ⟨_, rfl⟩, ?_⟩
      rw [e3, List.filter_append, List.filter_cons, if_neg (by rw [hp]; decide), List.filter_nil, List.append_nil]
  · have e : i = xs.length := by omega
    subst e
    refine .inl ⟨⟨xs, S _, Nat.le_refl _⟩, ?_⟩
    rw [List.take_length]
    exact hq
end L2

set_option Elab.async false
set_option linter.all false
set_option maxRecDepth 100000
set_option maxHeartbeats 4000000
namespace L2
open PySem PySem.Spec PyProof.Rows PySem.W
/-! ### range(a, b, -1) -/
/-- hi, hi - 1, .. (n of them) -/
def Itd (hi : Int) (n : Nat) : It := ⟨fun i _ => i < n, fun i H x H' => H' = H ∧ x = .int (hi - i), fun i _ => n ≤ i⟩
theorem turn_down {P : Program} {w : World} {K : PySem.W.Frag} {tg : Expr} (it : Addr) (hi : Int) (n : Nat) : Turn P w K tg (Itd hi n) [it] it (fun i h => IsRangeIter h it (hi + (i : Nat) * (-1)) ((n : Int) - (i : Nat)) (-1)) where
  mem := by simp
  obj := fun i h st b hb => by
    have e : b = it := by simpa using hb
    subst e
    exact ⟨_, st, fun v z => by
      have z' : Data.fields _ = Data.cell v := z
      cases z'⟩
  keep := fun i h h' st k => k it (by simp) _ st
  item := by
    intro X hP hw hK hc i pins s σ H E I hf st hg
    subst hP hw hK
    obtain ⟨f0, f1, f2, f3, f4, f5⟩ := hf it (by simp)
    have W := Walks.range (prog := X.prog) (w := X.w) (I.ok.hd hc) it hi (-1) n
    refine W.item i s _ _ hg st fun v h' tk hv st' kk => ?_
    obtain ⟨t, rfl⟩ := hv
    have I1 : Inv X pins σ H { s with heap := h', toks := tk } := I.turned (fun b o hb e => kk b o (by simpa using hb) e) f0 f1 f3 f4 f5
    refine ⟨_, rfl, go_of (s := { s with heap := h', toks := tk }) (n := "range_iterator") st' rfl rfl (by decide) ⟨.int (hi - i), H, I1, ⟨t, ?_⟩, ⟨rfl, rfl⟩, st', fun b hb => (hf b hb).1⟩⟩
    congr 1; omega
  done := by
    intro X hP hw hK hc i pins s σ H E I hf st hg
    subst hP hw hK
    obtain ⟨f0, f1, f2, f3, f4, f5⟩ := hf it (by simp)
    exact wpAny_pyNext_range_end (I.ok.hd hc) st (by have : n ≤ i := hg; omega) fun h' eb => ⟨rfl, I.turned (t' := s.toks) (fun b o hb e => eb b o hb e) f0 f1 f3 f4 f5⟩
  self := fun _ _ _ _ _ st h => wpAny_pyIter_rangeiter st h
section
variable {X : Cx} {tg : Expr}
def iRng3 (ta : TA) : TI := fun σ H R => ta σ H fun vs H1 => ∃ i j : Int, vs = [.int i, .int j, .int (-1)] ∧ (-(2 ^ 28) ≤ i ∧ i < 2 ^ 28 ∧ -(2 ^ 28) ≤ j ∧ j < 2 ^ 28) ∧ R (Itd i (i - j).toNat) H1
theorem pi_range3 {a b c : Expr} {ta : TA} {p pos : Pos} (hg : Gl X "range") (hm : X.mg "range" = none) (ha : PA X [a, b, c] ta) (hs : starEach (a :: [b, c]) X.env = (false, eval a X.env) :: starEach [b, c] X.env := by rfl)
    (hpl : (backTo pos (starEach [b, c] X.env)).any (·.1) = false := by rfl) : PI X tg (.Call (.Name "range" p) [a, b, c] [] pos) (iRng3 ta) := by
  intro pins s σ H R I h
  refine Call_ (ld_blt I hg hm boot_range (PyProof.Rows.callWith_type1 (thn (ha pos pins s σ H _ I h) fun us s1 ⟨vs, H1, I1, r1, q1⟩ => ?_) hs hpl))
  obtain ⟨i, j, e, ⟨q1, q2, q3, q4⟩, q⟩ := q1
  subst e
  cases r1 with
  | cons r rr =>
    cases rr with
    | cons r' rr =>
      cases rr with
      | cons r'' rr =>
        cases rr
        obtain ⟨t, rfl⟩ := r
        obtain ⟨t', rfl⟩ := r'
        obtain ⟨t'', rfl⟩ := r''
        refine call_range_3 (by decide) ?_ (.inl (PyProof.noPylong_small (by omega)))
        refine wpAny_pyIter_range (IsRange.new ..) (small_down (by omega) (by omega) (by omega) (by omega)) ?_
        have I2 : Inv X pins σ H1 { s1 with heap := s1.heap.push { cls := .type "range", data := .fields #[.int i t, .int j t', .int (-1) t''] }, toks := s1.toks } := I1.kept fun b o e => Heap.get?_push_of_some _ e
        refine ⟨(s1.heap.push { cls := .type "range", data := .fields #[.int i t, .int j t', .int (-1) t''] }).objs.size, [(s1.heap.push { cls := .type "range", data := .fields #[.int i t, .int j t', .int (-1) t''] }).objs.size], _, _, H1, rfl,
          I2.kept (t' := s1.toks) fun b o e => Heap.get?_push_of_some _ e, turn_down _ i (i - j).toNat, ?_, fun b hb => ?_, q⟩
        · have e1 : i + ((0 : Nat) : Int) * (-1) = i := by simp
          have e2 : (((i - j).toNat : Nat) : Int) - ((0 : Nat) : Int) = Builtin.Range.rangeSize i j (-1) := by rw [rangeSize_downNat]; omega
          show IsRangeIter _ _ (i + ((0 : Nat) : Int) * (-1)) ((((i - j).toNat : Nat) : Int) - ((0 : Nat) : Int)) (-1)
          rw [e1, e2]
          exact Heap.get?_push_size _ rfl
        · have e : b = (s1.heap.push { cls := .type "range", data := .fields #[.int i t, .int j t', .int (-1) t''] }).objs.size := by simpa using hb
          subst e
          exact I2.fpOk (Nat.le_refl _) (I2.hok.fresh (Nat.le_refl _))
end
theorem for_down {hi : Int} {n : Nat} {g : TG} {tb : TS} {D : Ends} {σ : St} {H : Hp} (Pv : Nat → St → Hp → Prop) (h0 : Pv 0 σ H)
    (hs : ∀ i σ H, i < n → Pv i σ H → g (.int (hi - i)) σ H fun σ2 H2 => tb { D with nx := Pv (i + 1), ct := Pv (i + 1), bk := D.nx } σ2 H2) (hd : ∀ σ H, Pv n σ H → D.nx σ H) :
    ∃ W : Nat → Nat → St → Hp → Prop, (∃ m, W 0 m σ H) ∧ ∀ i m σ H, W i m σ H →
      ((Itd hi n).stop i H ∧ D.nx σ H) ∨ ((Itd hi n).go i H ∧ ∃ N : St → Hp → Prop, (∀ σ' H', N σ' H' → ∃ m', m' < m ∧ W (i + 1) m' σ' H') ∧ ∀ x H', (Itd hi n).yld i H x H' → g x σ H' fun σ2 H2 => tb { D with nx := N, ct := N, bk := D.nx } σ2 H2) := by
  refine ⟨fun i m σ H => m = n - i ∧ i ≤ n ∧ Pv i σ H, ⟨n, by simp, Nat.zero_le _, h0⟩, ?_⟩
  rintro i m σ H ⟨rfl, hi', p⟩
  by_cases hlt : i < n
  · refine .inr ⟨hlt, Pv (i + 1), fun σ' H' p' => ⟨n - (i + 1), by omega, rfl, hlt, p'⟩, fun x H' y => ?_⟩
    obtain ⟨e, y⟩ := y
    subst e y
    exact hs i σ _ hlt p
  · have e : i = n := by omega
    subst e
    exact .inl ⟨Nat.le_refl _, hd σ H p⟩
end L2

set_option Elab.async false
set_option linter.all false
set_option maxRecDepth 100000
set_option maxHeartbeats 4000000
/-! sorted over pairs of ints: the outcome is a reordering (which one is not asked) -/
namespace L2
open PySem PyProof.Rows

structure SB (κ : SortKind) (a₀ : Array Keyed) (st : SortSt) : Prop where
  pm : (arrOf st).Perm a₀
  kd : kindOf st = κ
  fl : failedOf st = none
  pd : pendingOf st = #[]
theorem SB.sz {κ : SortKind} {a₀ : Array Keyed} {st : SortSt} (h : SB κ a₀ st) : (arrOf st).size = a₀.size := h.pm.size_eq
theorem SB.put {κ : SortKind} {a₀ : Array Keyed} {st : SortSt} (h : SB κ a₀ st) {xs : Array Keyed} (p : xs.Perm (arrOf st)) : SB κ a₀ (setArr st xs) := ⟨p.trans h.pm, h.kd, h.fl, h.pd⟩
def LtOk (prog : Program) (w : World) (A : Around) (E : Value → Shared → Prop) (s : Shared) (κ : SortKind) (a₀ : Array Keyed) : Prop :=
  ∀ (st : SortSt) (i j : Nat) (Q : Option Bool → SortSt → Prop), SB κ a₀ st → i < a₀.size → j < a₀.size → (∀ b, Q (some b) st) → wpS (model prog w) A E s (ltAt' i j) Q st
section
variable {prog : Program} {w : World} {A : Around} {E : Value → Shared → Prop} {s : Shared} {a₀ : Array Keyed} {κ : SortKind}
theorem ascP {st : SortSt} {a nrem : Nat} {Q : AscSt → SortSt → Prop} (L : LtOk prog w A E s κ a₀) (hn : nrem ≤ a₀.size) (ha : 1 ≤ a) (han : a ≤ nrem) (B : SB κ a₀ st) (h : ∀ n, a ≤ n → n ≤ nrem → Q (none, n) st) :
    wpS (model prog w) A E s (ascLoop a nrem) Q st := by
  unfold ascLoop
  refine wpS_forRange (fun x c st' => st' = st ∧ c = (none, x)) ?_ ?_ ⟨rfl, rfl⟩
  · rintro x c st' h1 h2 ⟨rfl, rfl⟩
    refine wpS_bind (L st' _ _ _ B (by show x < _; omega) (by show x - 1 < _; omega) fun b => ?_)
    cases b with
    | true => exact wpS_pure (h x h1 (by omega))
    | false => exact wpS_pure ⟨rfl, rfl⟩
  · rintro c st' ⟨rfl, rfl⟩
    have e : max a nrem = nrem := by omega
    rw [e]; exact h nrem han (Nat.le_refl _)
theorem revP {st : SortSt} {i j : Nat} {Q : Unit → SortSt → Prop} (B : SB κ a₀ st) (h : ∀ st', SB κ a₀ st' → Q () st') : wpS (model prog w) A E s (reverseSlice' i j) Q st := by
  rw [reverseSlice'_eq]
  exact wpS_modify (h _ (B.put (mirror_perm _ _ _ _)))
theorem tail3P {st : SortSt} {n nrem : Nat} {Q : Option Nat → SortSt → Prop} (L : LtOk prog w A E s κ a₀) (hn : nrem ≤ a₀.size) (h1 : 1 ≤ n) (h2 : n ≤ nrem) (B : SB κ a₀ st) (h : ∀ m st', SB κ a₀ st' → 1 ≤ m → m ≤ nrem → Q (some m) st') :
    wpS (model prog w) A E s (tail3 n nrem) Q st := by
  unfold tail3
  refine wpS_bind (revP B fun st' B' => ?_)
  exact wpS_bind (ascP L hn h1 h2 B' fun m a b => wpS_pure (h m _ B' (by omega) b))
theorem descP {st : SortSt} {n nrem : Nat} {Q : DescSt → SortSt → Prop} (L : LtOk prog w A E s κ a₀) (hn : nrem ≤ a₀.size) (h1 : 1 ≤ n) (h2 : n ≤ nrem) (B : SB κ a₀ st) (h : ∀ m q st', SB κ a₀ st' → n ≤ m → m ≤ nrem → Q (none, m, q) st') :
    wpS (model prog w) A E s (descLoop n nrem) Q st := by
  unfold descLoop
  refine wpS_forRange (fun x c st' => ∃ q, c = (none, x, q) ∧ SB κ a₀ st') ?_ ?_ ⟨0, rfl, B⟩
  · rintro x c st' a b ⟨q, rfl, B'⟩
    refine wpS_bind (L st' _ _ _ B' (by show x < _; omega) (by show x - 1 < _; omega) fun k => ?_)
    cases k with
    | true =>
      show wpS _ _ _ _ (if true = true then _ else _) _ _
      rw [if_pos rfl]
      by_cases hq : q > 0
      · show wpS _ _ _ _ (if q > 0 then _ else _) _ _
        rw [if_pos hq]
        exact wpS_bind (revP B' fun st2 B2 => wpS_pure ⟨0, rfl, B2⟩)
      · show wpS _ _ _ _ (if q > 0 then _ else _) _ _
        rw [if_neg hq]
        exact wpS_pure ⟨0, rfl, B'⟩
    | false =>
      show wpS _ _ _ _ (if false = true then _ else _) _ _
      rw [if_neg (by decide)]
      refine wpS_bind (L st' _ _ _ B' (by show x - 1 < _; omega) (by show x < _; omega) fun k => ?_)
      cases k with
      | true => exact wpS_pure (h x q st' B' a (by omega))
      | false => exact wpS_pure ⟨q + 1, rfl, B'⟩
  · rintro c st' ⟨q, rfl, B'⟩
    have e : max n nrem = nrem := by omega
    rw [e]; exact h nrem q st' B' h2 (Nat.le_refl _)
theorem descPartP {st : SortSt} {n nrem : Nat} {Q : Option Nat → SortSt → Prop} (L : LtOk prog w A E s κ a₀) (hn : nrem ≤ a₀.size) (h2 : n + 1 ≤ nrem) (B : SB κ a₀ st) (h : ∀ m st', SB κ a₀ st' → 1 ≤ m → m ≤ nrem → Q (some m) st') :
    wpS (model prog w) A E s (descPart n nrem) Q st := by
  unfold descPart
  refine wpS_bind (wpS_lift (wpAny_rule ⟨rfl, ?_⟩))
  refine wpS_bind (descP L hn (by omega) h2 B fun m q st' B' a b => ?_)
  show wpS _ _ _ _ (if q > 0 then _ else _) _ _
  by_cases hq : q > 0
  · rw [if_pos hq]
    exact wpS_bind (revP B' fun st2 B2 => tail3P (n := m) L hn (by omega) b B2 h)
  · rw [if_neg hq]
    exact tail3P (n := m) L hn (by omega) b B' h
theorem countP {st : SortSt} {nrem : Nat} {Q : Option Nat → SortSt → Prop} (L : LtOk prog w A E s κ a₀) (hn : nrem ≤ a₀.size) (h1 : 1 ≤ nrem) (B : SB κ a₀ st) (h : ∀ m st', SB κ a₀ st' → 1 ≤ m → m ≤ nrem → Q (some m) st') :
    wpS (model prog w) A E s (countRun' 0 nrem) Q st := by
  rw [countRun0_eq]
  refine wpS_bind (ascP L hn (Nat.le_refl 1) h1 B fun n a b => ?_)
  dsimp only
  by_cases e : n = nrem
  · rw [if_pos (by simpa using e)]
    exact wpS_pure (h n st B a b)
  · rw [if_neg (by simpa using e)]
    by_cases g : n > 1
    · rw [if_pos g]
      refine wpS_bind (L st _ _ _ B (by omega) (by omega) fun k => ?_)
      cases k with
      | true => exact wpS_pure (h n st B a b)
      | false => exact wpS_bind (revP B fun st2 B2 => descPartP L hn (by omega) B2 h)
    · rw [if_neg g]
      exact descPartP L hn (by omega) B h
theorem binP {st : SortSt} {n ok : Nat} {Q : Bool → SortSt → Prop} (L : LtOk prog w A E s κ a₀) (hn : n ≤ a₀.size) (B : SB κ a₀ st) (h : ∀ st', SB κ a₀ st' → Q true st') : wpS (model prog w) A E s (binarySort' 0 n ok) Q st := by
  rw [binarySort'_eq]
  simp only [Nat.zero_add]
  refine wpS_bind (wpS_mono (wpS_forRange (I := fun _ c st' => c = (none, ()) ∧ SB κ a₀ st') (Q := fun c st' => c = (none, ()) ∧ SB κ a₀ st') ?_ (fun c st' z => z) ⟨rfl, B⟩) ?_)
  · rintro k c st' _ hk ⟨rfl, B'⟩
    refine wpS_bind (wpS_mono (wpS_forRange (I := fun _ c st2 => st2 = st' ∧ ∃ l r, c = (none, l, r) ∧ l ≤ r ∧ r ≤ k) (Q := fun c st2 => st2 = st' ∧ ∃ l r, c = (none, l, r)) ?_ ?_ ⟨rfl, 0, k, rfl, by omega, by omega⟩) ?_)
    · rintro x c st2 _ _ ⟨rfl, l, r, rfl, h1, h2⟩
      dsimp only
      by_cases g : l ≥ r
      · rw [if_pos g]
        exact wpS_pure ⟨rfl, l, r, rfl⟩
      · rw [if_neg g]
        refine wpS_bind (L st2 _ _ _ B' (by omega) (by omega) fun b => ?_)
        cases b with
        | true => exact wpS_pure ⟨rfl, l, (l + r) / 2, rfl, by omega, by omega⟩
        | false => exact wpS_pure ⟨rfl, (l + r) / 2 + 1, r, rfl, by omega, by omega⟩
    · rintro c st2 ⟨rfl, l, r, rfl, _, _⟩
      exact ⟨rfl, l, r, rfl⟩
    · rintro c st2 ⟨rfl, l, r, rfl⟩
      show wpS _ _ _ _ (do moveDown' k l; pure (ForInStep.yield (none, ()))) _ _
      rw [moveDown'_eq]
      exact wpS_bind (wpS_modify (wpS_pure ⟨rfl, B'.put (bubble_perm _ _ _)⟩))
  · rintro c st' ⟨rfl, B'⟩
    exact wpS_pure (h st' B')
def SD (a₀ : Array Keyed) (st : SortSt) : Prop := (arrOf st).Perm a₀ ∧ failedOf st = none ∧ pendingOf st = #[(0, a₀.size, 0)]
theorem runsP {st : SortSt} {Q : Unit → SortSt → Prop} (L : LtOk prog w A E s κ a₀) (B : SB κ a₀ st) (h2 : 2 ≤ a₀.size) (h64 : a₀.size < 64) (h : ∀ st', (arrOf st').Perm a₀ → failedOf st' = none → Q () st') :
    wpS (model prog w) A E s sortRuns' Q st := by
  rw [sortRuns'_eq]
  refine wpS_bind (wpS_get ?_)
  dsimp only
  have hmr : minRun' a₀.size a₀.size 0 = a₀.size := by
    obtain ⟨f, hf⟩ : ∃ f, a₀.size = f + 1 := ⟨a₀.size - 1, by omega⟩
    have z : minRun' (f + 1) a₀.size 0 = a₀.size := by rw [minRun'_succ, if_pos h64]; rfl
    rwa [← hf] at z
  simp only [B.sz, hmr]
  refine wpS_bind (wpS_mono (wpS_forRange (I := fun x c st' => (x = 0 ∧ c = (none, 0) ∧ SB κ a₀ st') ∨ (1 ≤ x ∧ c = (none, a₀.size) ∧ SD a₀ st')) (Q := fun c st' => c = (none, a₀.size) ∧ SD a₀ st') ?_ ?_ (.inl ⟨rfl, rfl, B⟩)) ?_)
  · rintro x c st' _ hx (⟨rfl, rfl, B'⟩ | ⟨hx1, rfl, D⟩)
    · dsimp only
      rw [if_neg (by omega)]
      simp only [Nat.sub_zero, Nat.min_self, Nat.zero_add]
      refine wpS_bind (countP L (Nat.le_refl _) (by omega) B' fun m st2 B2 hm1 hm2 => ?_)
      dsimp only
      have fin : ∀ st3, SB κ a₀ st3 → SD a₀ (setPending st3 ((pendingOf st3).push (0, a₀.size, 0))) := fun st3 B3 => ⟨B3.pm, B3.fl, by show (pendingOf st3).push _ = _; rw [B3.pd]; rfl⟩
      by_cases hlt : m < a₀.size
      · rw [if_pos hlt]
        refine wpS_bind (wpS_lift (wpAny_rule ⟨rfl, ?_⟩))
        refine wpS_bind (binP L (Nat.le_refl _) B2 fun st3 B3 => ?_)
        simp only [Bool.not_true, Bool.false_eq_true, if_false]
        refine wpS_bind (wpS_get ?_)
        have hb : (pendingOf st3).back? = none := by rw [B3.pd]; rfl
        rw [hb]
        dsimp only
        exact wpS_bind (wpS_modify (wpS_pure (.inr ⟨by omega, rfl, fin st3 B3⟩)))
      · rw [if_neg hlt]
        have hm : m = a₀.size := by omega
        subst hm
        refine wpS_bind (wpS_get ?_)
        have hb : (pendingOf st2).back? = none := by rw [B2.pd]; rfl
        rw [hb]
        dsimp only
        exact wpS_bind (wpS_modify (wpS_pure (.inr ⟨by omega, by simp, fin st2 B2⟩)))
    · dsimp only
      rw [if_pos (by omega)]
      exact wpS_pure ⟨rfl, D⟩
  · rintro c st' (⟨hx, _, _⟩ | ⟨_, hc, D⟩)
    · omega
    · exact ⟨hc, D⟩
  · rintro c st' ⟨rfl, p, f, q⟩
    dsimp only
    refine wpS_bind (wpS_mono (wpS_forRange (I := fun _ c st2 => st2 = st' ∧ c = (none, ())) (Q := fun c st2 => st2 = st' ∧ c = (none, ())) ?_ (fun c st2 z => z) ⟨rfl, rfl⟩) ?_)
    · rintro x c st2 _ _ ⟨rfl, rfl⟩
      refine wpS_bind (wpS_get ?_)
      rw [q]
      exact wpS_pure ⟨rfl, rfl⟩
    · rintro c st2 ⟨rfl, rfl⟩
      exact wpS_pure (h st2 p f)
end
end L2

set_option Elab.async false
set_option linter.all false
set_option maxRecDepth 100000
set_option maxHeartbeats 4000000
namespace L2
open PySem PyProof.Rows
/-- a pair of ints, as it lies -/
def PairAt (h : Heap) (v : Value) : Prop := ∃ t o n c a b ta tb, v = .ref t ∧ h.get? t = some o ∧ o.cls = .type "tuple" ∧ o.data = .seq #[.int a ta, .int b tb] n ∧ c = (0 : Nat)
theorem PairAt.keep {h h' : Heap} {v : Value} (p : PairAt h v) (k : ∀ b o, h.get? b = some o → h'.get? b = some o) : PairAt h' v := by
  obtain ⟨t, o, n, c, a, b, ta, tb, e, ho, r⟩ := p
  exact ⟨t, o, n, c, a, b, ta, tb, e, k _ _ ho, r⟩
theorem keyLtT_eq (f : Bool) (x y : Value) : keyLt' (tuples' f) x y = (do
    let xs ← Builtin.List.listItems x; let ys ← Builtin.List.listItems y
    for ((p, q), i) in (xs.toList.zip ys.toList).zipIdx do
      if !(← eqBool p q) then return ← oneLt' (f && i == 0) p q
    return xs.size < ys.size) := rfl
section
variable {prog : Program} {w : World} {A : Around} {E : Value → Shared → Prop} {s : Shared}
theorem oneLt_any {f : Bool} {a b : Int} {t u : Tok} {Q : Bool → Shared → Prop} (h : Q (decide (a < b)) s) : wpAny (model prog w) A (oneLt' f (.int a t) (.int b u)) Q E s := by
  cases f with
  | true => exact oneLt_int h
  | false =>
    rw [oneLt'_eq]
    simp only [Bool.false_eq_true, if_false]
    exact wpAny_bind (PyProof.Rows.lt_int (wpAny_truthy_bool h))
theorem keyLt_pair {f : Bool} {x y : Value} {Q : Bool → Shared → Prop} (hx : PairAt s.heap x) (hy : PairAt s.heap y) (h : ∀ b, Q b s) : wpAny (model prog w) A (keyLt' (tuples' f) x y) Q E s := by
  obtain ⟨t, o, n, _, a, b, ta, tb, rfl, ho, hc, hd, _⟩ := hx
  obtain ⟨t', o', n', _, a', b', ta', tb', rfl, ho', hc', hd', _⟩ := hy
  rw [keyLtT_eq]
  refine wpAny_bind (listItems_at ho hd (wpAny_bind (listItems_at ho' hd' ?_)))
  show wpAny _ _ (forIn [((Value.int a ta, Value.int a' ta'), 0), ((Value.int b tb, Value.int b' tb'), 1)] _ _ >>= _) _ _ _
  simp only [List.forIn_cons, List.forIn_nil]
  refine wpAny_bind (wpAny_bind (wpAny_bind (SeqAt.EqAt.int_int a ta a' ta' prog w _ _ ?_)))
  by_cases e : a = a'
  · rw [show (!(a == a')) = false by simp [e]]
    simp only [Bool.false_eq_true, if_false]
    refine wpAny_pure (wpAny_bind (wpAny_bind (SeqAt.EqAt.int_int b tb b' tb' prog w _ _ ?_)))
    by_cases e2 : b = b'
    · rw [show (!(b == b')) = false by simp [e2]]
      simp only [Bool.false_eq_true, if_false]
      exact wpAny_pure (wpAny_pure (wpAny_pure (h _)))
    · rw [show (!(b == b')) = true by simp [e2]]
      simp only [if_true]
      exact wpAny_bind (oneLt_any (wpAny_pure (wpAny_pure (wpAny_pure (h _)))))
  · rw [show (!(a == a')) = true by simp [e]]
    simp only [if_true]
    exact wpAny_bind (oneLt_any (wpAny_pure (wpAny_pure (wpAny_pure (h _)))))
theorem ltOk_pairs {f : Bool} {a₀ : Array Keyed} (hp : ∀ p ∈ a₀.toList, PairAt s.heap p.1) : LtOk prog w A E s (tuples' f) a₀ := by
  intro st i j Q B hi hj h
  have get : ∀ i, i < a₀.size → ∃ p, (arrOf st)[i]? = some p ∧ PairAt s.heap p.1 := fun i hi => by
    have hi' : i < (arrOf st).size := by rw [B.sz]; exact hi
    have hm : (arrOf st)[i] ∈ a₀.toList := (Array.perm_iff_toList_perm.mp B.pm).mem_iff.mp (by simp)
    exact ⟨_, getElem?_pos _ i hi', hp _ hm⟩
  obtain ⟨p, e1, p1⟩ := get i hi
  obtain ⟨q, e2, p2⟩ := get j hj
  rw [ltAt'_eq]
  refine wpS_bind (wpS_get ?_)
  show wpS _ _ _ _ (do let x ← elem' (arrOf st) i; let y ← elem' (arrOf st) j; lt' x y) Q st
  rw [elem'_eq, elem'_eq, e1, e2]
  refine wpS_bind (wpS_pure (wpS_bind (wpS_pure ?_)))
  rw [lt'_eq]
  refine wpS_bind (wpS_get ?_)
  rw [B.kd]
  refine wpS_bind (wpS_lift (wpAny_attempt (keyLt_pair p1 p2 fun b => ⟨rfl, ?_⟩)))
  exact wpS_pure (h b)
/-! what kind the keys are -/
theorem firstOf_eq (v : Value) : firstOfTuple' v = (do
    if (← typeOf v) != .type "tuple" then return none
    return (← Builtin.List.listItems v)[0]?) := rfl
theorem firsts_pairs {Q : List (Option Value) → Shared → Prop} : ∀ {vs : List Value}, (∀ v ∈ vs, PairAt s.heap v) → (∀ (fs : List (Option Value)) (us : List Value) (ns : List Int), fs = us.map some → IntsAre us ns → Q fs s) → wpAny (model prog w) A (vs.mapM firstOfTuple') Q E s
  | [], _, h => by rw [List.mapM_nil]; exact wpAny_pure (h [] [] [] rfl .nil)
  | v :: vs, hv, h => by
    rw [List.mapM_cons, firstOf_eq]
    obtain ⟨t, o, n, _, a, b, ta, tb, rfl, ho, hc, hd, _⟩ := hv v List.mem_cons_self
    refine wpAny_bind (wpAny_bind (wpAny_typeOf (T := "tuple") ⟨o, ho, hc⟩ ?_))
    have e : (Value.type "tuple" != Value.type "tuple") = false := by rfl
    rw [e]
    simp only [Bool.false_eq_true, if_false]
    refine wpAny_bind (listItems_at ho hd (wpAny_pure ?_))
    refine wpAny_bind (firsts_pairs (fun u hu => hv u (List.mem_cons_of_mem _ hu)) fun fs us ns e1 e2 => ?_)
    exact wpAny_pure (h _ (.int a ta :: us) (a :: ns) (by rw [e1]; rfl) (.cons a ta e2))
theorem oneType_pure {us : List Value} {ns : List Int} (h : IntsAre us ns) : ∃ r, oneTypeOnly' us.toArray = pure r := by
  rw [oneTypeOnly'_eq, List.mapM_toArray, mapM_typeOf_ints h]
  simp only [map_pure, pure_bind]
  cases (List.map (fun _ => Value.type "int") us).toArray[0]? with
  | none => exact ⟨none, rfl⟩
  | some t => exact ⟨_, rfl⟩
theorem keyKind_pairs {vs : List Value} {Q : SortKind → Shared → Prop} (hv : ∀ v ∈ vs, PairAt s.heap v) (h : ∀ f, Q (tuples' f) s) : wpAny (model prog w) A (keyKind' vs.toArray) Q E s := by
  rw [keyKind'_eq, List.mapM_toArray]
  refine wpAny_bind ?_
  show wpAny _ _ (List.toArray <$> vs.mapM firstOfTuple') _ _ _
  rw [map_eq_pure_bind]
  refine wpAny_bind (firsts_pairs hv fun fs us ns e1 e2 => wpAny_pure ?_)
  subst e1
  have a1 : ((us.map some).toArray.all fun x => x.isSome) = true := by
    simp only [List.all_toArray, List.all_map, List.all_eq_true]
    intro _ _; rfl
  rw [if_pos a1]
  refine wpAny_bind (wpAny_rule ?_)
  have a2 : (us.map some).toArray.filterMap id = us.toArray := by
    rw [List.filterMap_toArray]
    congr 1
    rw [List.filterMap_map]
    exact List.filterMap_some
  rw [a2]
  obtain ⟨r, hr⟩ := oneType_pure e2
  rw [hr]
  exact wpAny_bind (wpAny_pure (wpAny_pure (h _)))
/-! list.sort, sorted -/
theorem perm_out {vs : List Value} {xs : Array Keyed} (hp : xs.Perm (pairsOf vs)) : (xs.map (·.2)).toList.Perm vs := by
  have hl : xs.toList.Perm (vs.zip vs) := by rw [← pairsOf_toList]; exact Array.perm_iff_toList_perm.mp hp
  have h1 := hl.map (fun p : Keyed => p.2)
  rw [Array.toList_map]
  have e : (vs.zip vs).map (fun p : Keyed => p.2) = vs := List.map_snd_zip (Nat.le_refl _)
  rw [e] at h1
  exact h1
theorem sort_pairs {a : Addr} {vs : List Value} {n : Nat} {P : PySem.Fin → Shared → Prop} (ho : s.heap.get? a = some (seqObj "list" vs.toArray n)) (hv : ∀ v ∈ vs, PairAt s.heap v) (h64 : vs.length < 64)
    (h : ∀ (out : Array Value), out.toList.Perm vs → P (.done (.ret .none)) { s with heap := sortedHeap s.heap a vs out }) :
    wpAny (model prog w) A (Builtin.«list.sort» ⟨[.ref a], []⟩) P E s := by
  rw [list_sort_plain]
  have ha : a < s.heap.objs.size := Heap.lt_size ho
  refine wpAny_bind (listItems_at ho rfl (wpAny_bind (listUpdate_at ho rfl ?_)))
  obtain ⟨e1, ho1⟩ : ∃ e1, (s.heap.update a (Obj.mapSeq fun _ => #[])).get? a = some (seqObj "list" #[] e1) := ⟨_, get?_update_seq ho (fun _ => #[])⟩
  refine wpAny_bind (seqEpoch_at ho1 rfl (wpAny_bind (wpAny_newTuple (wpAny_bind (wpAny_newList (wpAny_holding ?_))))))
  have old : ∀ b o, b ≠ a → s.heap.get? b = some o → (((s.heap.update a (Obj.mapSeq fun _ => #[])).push (seqObj "tuple" vs.toArray 0)).push (seqObj "list" #[] 0)).get? b = some o := fun b o hb e => by
    have hlt := Heap.lt_size e
    rw [Heap.get?_push_ne _ _ _ (by rw [size_push', Heap.size_update]; exact Nat.ne_of_lt (Nat.lt_succ_of_lt hlt)), Heap.get?_push_ne _ _ _ (by rw [Heap.size_update]; exact Nat.ne_of_lt hlt), Heap.get?_update_ne _ _ _ _ hb]
    exact e
  have ho6 : (((s.heap.update a (Obj.mapSeq fun _ => #[])).push (seqObj "tuple" vs.toArray 0)).push (seqObj "list" #[] 0)).get? a = some (seqObj "list" #[] e1) := by
    rw [Heap.get?_push_ne _ _ _ (by rw [size_push', Heap.size_update]; exact Nat.ne_of_lt (Nat.lt_succ_of_lt ha)), Heap.get?_push_ne _ _ _ (by rw [Heap.size_update]; exact Nat.ne_of_lt ha)]
    exact ho1
  have hv6 : ∀ v ∈ vs, PairAt (((s.heap.update a (Obj.mapSeq fun _ => #[])).push (seqObj "tuple" vs.toArray 0)).push (seqObj "list" #[] 0)) v := fun v hm => by
    obtain ⟨t, o, n, c, x, y, tx, ty, e, h1, h2, r⟩ := hv v hm
    refine ⟨t, o, n, c, x, y, tx, ty, e, old t o ?_ h1, h2, r⟩
    rintro rfl
    rw [ho] at h1
    cases h1
    have h2 : Value.type "list" = Value.type "tuple" := h2
    injection h2 with h2
    exact absurd h2 (by decide)
  show wpAny (model prog w) A _ P E { s with heap := ((s.heap.update a (Obj.mapSeq fun _ => #[])).push (seqObj "tuple" vs.toArray 0)).push (seqObj "list" #[] 0) }
  dsimp only
  have hsz : vs.toArray.size = vs.length := by simp
  have big : ∀ (xs : Array Keyed), xs.Perm (pairsOf vs) → (xs.map (·.2)).size ≤ sizeLine + 1 := fun xs hp => by
    rw [Array.size_map, hp.size_eq, pairsOf_size, sizeLine_eq]; omega
  by_cases h2 : vs.toArray.size < 2
  · rw [if_pos h2, if_pos h2]
    refine wpAny_bind (wpAny_pure ?_)
    rw [StateT.run_pure]
    refine wpAny_bind (wpAny_pure ?_)
    dsimp only
    refine wpAny_bind (seqEpoch_at ho6 rfl ?_)
    refine wpAny_bind (listUpdate_at ho6 rfl ?_ (hsz2 := big (pairsOf vs) (Array.Perm.refl _)))
    simp only [bne_self_eq_false, Bool.false_eq_true, if_false]
    exact wpAny_pure (h _ (perm_out (Array.Perm.refl _)))
  · rw [if_neg h2, if_neg h2]
    refine wpAny_bind (keyKind_pairs hv6 fun f => ?_)
    refine wpAny_bind (wpAny_mono (runsP (κ := tuples' f) (a₀ := pairsOf vs) (st := SortSt.mk' (tuples' f) (vs.toArray.zip vs.toArray) #[] 7 none) (Q := fun _ st' => (arrOf st').Perm (pairsOf vs) ∧ failedOf st' = none)
      (ltOk_pairs fun p hp => ?_) ⟨Array.Perm.refl _, rfl, rfl, rfl⟩ (by rw [pairsOf_size]; omega) (by rw [pairsOf_size]; exact h64) fun st' a1 a2 => ⟨a1, a2⟩) ?_ fun _ _ e => e)
    · rw [pairsOf_toList] at hp
      exact hv6 _ (mem_zip_self hp).2
    · rintro ⟨⟨⟩, st'⟩ s' ⟨rfl, hp, hf⟩
      dsimp only
      refine wpAny_bind (seqEpoch_at ho6 rfl ?_)
      refine wpAny_bind (listUpdate_at ho6 rfl ?_ (hsz2 := big _ hp))
      rw [hf]
      simp only [bne_self_eq_false, Bool.false_eq_true, if_false]
      exact wpAny_pure (h _ (perm_out hp))
theorem sorted_pairs {l : Addr} {vs : List Value} {Q : Value → Shared → Prop} (hl : s.heap.IsList l vs.toArray) (hv : ∀ v ∈ vs, PairAt s.heap v) (h64 : vs.length < 64)
    (h : ∀ (out : Array Value), out.toList.Perm vs → Q (.ref (s.heap.objs.size + 1)) { s with heap := sortedAll s.heap vs out }) :
    wpAny (model prog w) A (call (.builtin "sorted") [.ref l]) Q E s := by
  refine Calls.call_function_entry kind_sorted plain_sorted entry_sorted (args_sorted1 _) ?_
  unfold Builtin.«sorted»
  refine wpAny_bind (m := checkCount "sorted" 1 1 _) (wpAny_pure (wpAny_bind (collect_list hl (wpAny_bind (wpAny_newList ?_)))))
  have hsz : ((s.heap.push (seqObj "list" #[] 0)).update s.heap.objs.size (Obj.mapSeq (· ++ vs.toArray))).objs.size = s.heap.objs.size + 1 := by rw [Heap.size_update, size_push']
  have hoL : (((s.heap.push (seqObj "list" #[] 0)).update s.heap.objs.size (Obj.mapSeq (· ++ vs.toArray))).push (seqObj "list" vs.toArray 0)).get? (s.heap.objs.size + 1) = some (seqObj "list" vs.toArray 0) := by
    rw [← hsz]; exact Heap.get?_push_size _ rfl
  have old : ∀ b o, s.heap.get? b = some o → (((s.heap.push (seqObj "list" #[] 0)).update s.heap.objs.size (Obj.mapSeq (· ++ vs.toArray))).push (seqObj "list" vs.toArray 0)).get? b = some o := fun b o e => by
    have hlt := Heap.lt_size e
    rw [Heap.get?_push_ne _ _ _ (by rw [Heap.size_update, size_push']; exact Nat.ne_of_lt (Nat.lt_succ_of_lt hlt)), Heap.get?_update_ne _ _ _ _ (Nat.ne_of_lt hlt), Heap.get?_push_ne _ _ _ (Nat.ne_of_lt hlt)]
    exact e
  show wpAny _ _ _ _ _ { s with heap := ((s.heap.push (seqObj "list" #[] 0)).update s.heap.objs.size (Obj.mapSeq (· ++ vs.toArray))).push (seqObj "list" vs.toArray 0) }
  rw [hsz]
  refine wpAny_bind (wpAny_holding (wpAny_call_entry slot_list_sort ⟨_, hoL, rfl⟩ entry_list_sort (sort_pairs hoL (fun v hm => (hv v hm).keep old) h64 fun out a1 => ⟨_, rfl, ?_⟩) (args_list_sort _)))
  exact wpAny_pure ⟨_, rfl, h out a1⟩
end
/-! over the layer -/
theorem vals_perm : ∀ {us ws : List Value}, us.Perm ws → ∀ {xs : List V}, Vals xs us → ∃ zs, Vals zs ws ∧ xs.Perm zs := by
  intro us ws p
  induction p with
  | nil => intro xs r; cases r; exact ⟨[], .nil, List.Perm.refl _⟩
  | cons a p ih =>
    intro xs r
    cases r with
    | cons h t =>
      obtain ⟨zs, r2, p2⟩ := ih t
      exact ⟨_ :: zs, .cons h r2, p2.cons _⟩
  | swap a b l =>
    intro xs r
    cases r with
    | cons h t =>
      cases t with
      | cons h2 t2 => exact ⟨_, .cons h2 (.cons h t2), List.Perm.swap _ _ _⟩
  | trans p q ih1 ih2 =>
    intro xs r
    obtain ⟨zs, r2, p2⟩ := ih1 r
    obtain ⟨ys, r3, p3⟩ := ih2 r2
    exact ⟨ys, r3, p2.trans p3⟩
section
variable {X : Cx}
def rSortT (K : PySem.W.Frag) : List V → Hp → VK → Prop := fun xs H Q => ∃ p ys, xs = [.ref p] ∧ SqL K H p ys ∧ ys.length < 64 ∧ (∀ y ∈ ys, ∃ t a b, y = .ref t ∧ SqT K H t [.int a, .int b]) ∧
  ∀ l zs, H l = none → ys.Perm zs → Q (.ref l) (upd H l (.lst zs))
theorem call_sortedT : CallR X (.builtin "sorted") (rSortT X.K) := by
  intro pins s σ H xs us Q I r h
  obtain ⟨p, ys, rfl, hq, h64, hp, q⟩ := h
  obtain ⟨u, rfl, ru⟩ := vals1 r
  cases ru
  obtain ⟨its, rv, pl, hz⟩ := I.list hq
  have hl := rv.length
  refine sorted_pairs pl.isList (fun v hv => ?_) (by omega) fun out po => ?_
  · obtain ⟨i, hi, e⟩ := List.mem_iff_getElem.mp hv
    have hi' : i < ys.length := by omega
    obtain ⟨v', e2, rr⟩ := rv.get (i := i) (List.getElem?_eq_getElem hi')
    rw [List.getElem?_eq_getElem hi] at e2
    have e3 : v = v' := by rw [← e]; exact Option.some.inj e2
    obtain ⟨t, a, b, ey, ht⟩ := hp ys[i] (List.getElem_mem hi')
    rw [ey] at rr
    have rr : v' = Value.ref t := rr
    obtain ⟨its2, rv2, ⟨o, h1, h2, n, h3⟩, _⟩ := I.tuple ht
    obtain ⟨u1, u2, rfl, ⟨ta, rfl⟩, ⟨tb, rfl⟩⟩ := rv2.two
    exact ⟨t, o, n, 0, a, b, ta, tb, by rw [e3, rr], h1, h2, h3, rfl⟩
  · obtain ⟨zs, rz, pz⟩ := vals_perm po.symm rv
    obtain ⟨e, he⟩ := sortedAll_at s.heap its out
    have hf : H (s.heap.objs.size + 1) = none := I.hok.fresh (Nat.le_succ _)
    refine ⟨.ref (s.heap.objs.size + 1), _, I.laid (a := s.heap.objs.size + 1) (o := .lst zs) (t' := s.toks) (fun b u e => sortedAll_old e) (Nat.le_succ _) ⟨?_, out.toList, e, rz, ?_⟩, rfl, q _ zs hf pz⟩
    · rw [← pz.length_eq]; exact hz
    · rw [Array.toArray_toList]; exact he
def rSortI (K : PySem.W.Frag) : List V → Hp → VK → Prop := fun xs H Q => ∃ (p : Addr) (ns : List Int), xs = [.ref p] ∧ SqL K H p (ns.map V.int) ∧ ns.length < 64 ∧
  ∀ (l : Addr) (ns' : List Int), H l = none → ns'.Perm ns → ns'.Pairwise (· ≤ ·) → Q (.ref l) (upd H l (.lst (ns'.map V.int)))
theorem call_sortedI : CallR X (.builtin "sorted") (rSortI X.K) := by
  intro pins s σ H xs us Q I r h
  obtain ⟨p, ns, rfl, hq, h64, q⟩ := h
  obtain ⟨u, rfl, ru⟩ := vals1 r
  cases ru
  obtain ⟨its, rv, pl, hz⟩ := I.list hq
  have hl := rv.length
  rw [List.length_map] at hl hz
  refine sorted_ints pl.isList (intsAre_of rv) (by omega) fun out ns' a1 a2 a3 => ?_
  obtain ⟨e, he⟩ := sortedAll_at s.heap its out
  have hf : H (s.heap.objs.size + 1) = none := I.hok.fresh (Nat.le_succ _)
  refine ⟨.ref (s.heap.objs.size + 1), _, I.laid (a := s.heap.objs.size + 1) (o := .lst (ns'.map V.int)) (t' := s.toks) (fun b u e => sortedAll_old e) (Nat.le_succ _) ⟨?_, out.toList, e, vals_ints a1, ?_⟩, rfl, q _ ns' hf a2 a3⟩
  · rw [List.length_map, a2.length_eq]; exact hz
  · rw [Array.toArray_toList]; exact he
end
end L2

set_option Elab.async false
set_option linter.all false
set_option maxRecDepth 100000
set_option maxHeartbeats 4000000
namespace L2
open PySem PyProof.Rows
theorem firstMet_all (val : Nat → Int) : ∀ n, (∀ i j, i < j → j < n → val i ≠ val j) → (firstMet val n).length = n ∧ ∀ x ∈ firstMet val n, ∃ i, i < n ∧ x = val i
  | 0, _ => ⟨rfl, fun x h => by rw [firstMet_zero] at h; cases h⟩
  | n + 1, h => by
    obtain ⟨a, b⟩ := firstMet_all val n fun i j h1 h2 => h i j h1 (by omega)
    have nm : ¬ val n ∈ firstMet val n := fun m => by
      obtain ⟨i, hi, e⟩ := b _ m
      exact h i n hi (by omega) e.symm
    have e : firstMet val (n + 1) = firstMet val n ++ [val n] := by
      rw [firstMet_succ]
      unfold step_dedup
      first
        | rw [if_neg (by simpa using nm)]
        | simp [nm]
    rw [e]
    refine ⟨by rw [List.length_append, a]; rfl, fun x hx => ?_⟩
    rcases List.mem_append.mp hx with m | m
    · obtain ⟨i, hi, z⟩ := b x m
      exact ⟨i, by omega, z⟩
    · exact ⟨n, by omega, by simpa using m⟩
section
variable {X : Cx}
/-- set(l) of ints that differ: as many members -/
def rSetI (K : PySem.W.Frag) : List V → Hp → VK → Prop := fun xs H Q => ∃ (p : Addr) (ns : List Int), xs = [.ref p] ∧ SqL K H p (ns.map V.int) ∧ ns.length ≤ 1000 ∧ ns.Nodup ∧
  ∀ (l : Addr) (S : Int → Bool), H l = none → Q (.ref l) (upd H l (.set S ns.length))
theorem call_set (hc : X.calm = true) : CallR X (.type "set") (rSetI X.K) := by
  intro pins s σ H xs us Q I r h
  obtain ⟨p, ns, rfl, hq, hn, nd, q⟩ := h
  obtain ⟨u, rfl, ru⟩ := vals1 r
  cases ru
  obtain ⟨its, rv, pl, hz⟩ := I.list hq
  have hl := rv.length
  rw [List.length_map] at hl
  have e : (firstMet (fun i => ns.getD i 0) its.toArray.size).length = ns.length := by
    have z := (firstMet_all (fun i => ns.getD i 0) its.toArray.size fun i j h1 h2 => ?_).1
    · rw [z]; simp [hl]
    · have hj : j < ns.length := by rw [hl]; simpa using h2
      rw [List.getD_eq_getElem?_getD, List.getD_eq_getElem?_getD, List.getElem?_eq_getElem hj, List.getElem?_eq_getElem (by omega)]
      exact (List.pairwise_iff_getElem.mp nd) i j (by omega) hj h1
  refine PySem.call_set_list (ns := ns) (I.ok.hd hc) pl.isList (by simpa using intsAre_of rv) (by unfold scanBound; simp; omega) fun h' tk hS kk => ?_
  rw [e] at hS
  have hf : H s.heap.objs.size = none := I.hok.fresh (Nat.le_refl _)
  refine ⟨.ref s.heap.objs.size, _, I.laid (a := s.heap.objs.size) (o := .set _ ns.length) (t' := tk) (fun b u e => kk b u (Heap.lt_size e) e) (Nat.le_refl _) hS, rfl, q _ _ hf⟩
def rLenS : List V → Hp → VK → Prop := fun xs H Q => ∃ (p : Addr) (S : Int → Bool) (n : Nat), xs = [.ref p] ∧ H p = some (.set S n) ∧ Q (.int n) H
theorem call_lenS : CallR X (.builtin "len") rLenS := by
  intro pins s σ H xs us Q I r h
  obtain ⟨p, S, n, rfl, hp, q⟩ := h
  obtain ⟨u, rfl, ru⟩ := vals1 r
  cases ru
  obtain ⟨o, es, ep, t, h1, h2, h3, _, _, h6, h7, h8⟩ := (show s.heap.SetOf (intKind X.prog X.w) p S n from I.hok p _ hp)
  subst h8
  exact call_len_set h1 h2 h3 h7 (by unfold scanBound at h6; omega) ⟨.int es.size, H, I.tok _, ⟨_, rfl⟩, q⟩
end
end L2

set_option Elab.async false
set_option linter.all false
set_option maxRecDepth 100000
set_option maxHeartbeats 4000000
namespace L2
open PySem PySem.Spec PyProof.Rows
/-- a comprehension over a list, with any target -/
theorem comp_listG {K : PySem.W.Frag} {a : Addr} {xs : List V} {g : TG} {tc : TT} {te : TE} {p : Addr} {H : Hp} {Q : VK} {σ0 : St} (Sg : St → Prop) (Ok : V → St → Prop) (Pt : V → Bool) (F : V → V) (hn : xs.length ≤ 1000) (hS : SqL K H a xs) (hp : H p = none) (h0 : Sg σ0)
    (hg : ∀ x ys σ' (R : St → Hp → Prop), x ∈ xs → Sg σ' → (∀ σ2, Sg σ2 → Ok x σ2 → R σ2 (upd H p (.lst ys))) → g x σ' (upd H p (.lst ys)) R)
    (hc : ∀ x ys σ2 (R : Bool → Hp → Prop), x ∈ xs → Ok x σ2 → R (Pt x) (upd H p (.lst ys)) → tc σ2 (upd H p (.lst ys)) R)
    (he : ∀ x ys σ2 (R : VK), x ∈ xs → Ok x σ2 → Pt x = true → R (F x) (upd H p (.lst ys)) → te σ2 (upd H p (.lst ys)) R)
    (hq : Q (.ref p) (upd H p (.lst ((xs.filter Pt).map F)))) : CompGo (Itl K a) g tc te p Q σ0 H := by
  have len : ∀ i, (((xs.take i).filter Pt).map F).length ≤ xs.length := fun i => by
    rw [List.length_map]
    exact Nat.le_trans (List.length_filter_le _ _) (by rw [List.length_take]; omega)
  have S : ∀ ys, SqL K (upd H p (.lst ys)) a xs := fun ys => (same_new hp _).seq hS
  refine ⟨fun i m σ' H' => m = xs.length - i ∧ i ≤ xs.length ∧ Sg σ' ∧ H' = upd H p (.lst (((xs.take i).filter Pt).map F)), ⟨xs.length, by simp, Nat.zero_le _, h0, rfl⟩, ?_⟩
  rintro i m σ' H' ⟨rfl, hi, sg, rfl⟩
  by_cases hlt : i < xs.length
  · refine .inr ⟨⟨xs, xs[i], S _, by simp [hlt]⟩, fun x H2 y => ?_⟩
    obtain ⟨e1, y⟩ := y
    subst e1
    have e2 := y xs (S _)
    have hx : x ∈ xs := List.mem_of_getElem? e2
    refine hg x _ σ' _ hx sg fun σ2 sg2 ok2 => ?_
    refine hc x _ σ2 _ hx ok2 ?_
    have e3 : xs.take (i + 1) = xs.take i ++ [x] := by rw [List.take_add_one, e2]; rfl
    cases hp : Pt x with
    | true =>
      rw [if_pos rfl]
      refine he x _ σ2 _ hx ok2 hp ?_
      refine ⟨_, upd_same, Nat.lt_of_le_of_lt (len i) (small1000 hn), xs.length - (i + 1), by omega, rfl, by omega, sg2, ?_⟩
      rw [upd_upd, e3, List.filter_append, List.map_append, List.filter_cons, if_pos hp]
      rfl
    | false =>
      rw [if_neg (by decide)]
      refine ⟨xs.length - (i + 1), by omega, rfl, by omega, sg2, ?_⟩
      rw [e3, List.filter_append, List.filter_cons, if_neg (by rw [hp]; decide), List.filter_nil, List.append_nil]
  · have e : i = xs.length := by omega
    subst e
    refine .inl ⟨⟨xs, S _, Nat.le_refl _⟩, ?_⟩
    rw [List.take_length]
    exact hq
/-- a comprehension over a range whose elements are made: what holds of them, place by place -/
theorem comp_made {lo : Int} {n : Nat} {rest : St} {te : TE} {p : Addr} {H : Hp} {Q : VK} {σ0 : St} (Good : Nat → V → Hp → Prop) (hn : n ≤ 1000) (hp : H p = none) (h0 : ∃ t, σ0 = t :: rest)
    (mono : ∀ j v H1 H2, Good j v H1 → (∀ b o, b ≠ p → H1 b = some o → H2 b = some o) → Good j v H2)
    (he : ∀ (i : Nat) H' (R : VK), i < n → Same H H' → (∃ ys, H' p = some (.lst ys)) → (∀ y H2, Same H' H2 → Good i y H2 → R y H2) → te (some (.int (lo + i)) :: rest) H' R)
    (hq : ∀ ys H', Same H H' → H' p = some (.lst ys) → ys.length = n → (∀ (j : Nat) v, ys[j]? = some v → Good j v H') → Q (.ref p) H') : CompGo (Itr lo n) (gName 0) tYes te p Q σ0 H := by
  refine ⟨fun i m σ' H' => m = n - i ∧ i ≤ n ∧ (∃ t, σ' = t :: rest) ∧ Same H H' ∧ ∃ ys, H' p = some (.lst ys) ∧ ys.length = i ∧ ∀ (j : Nat) v, ys[j]? = some v → Good j v H', ⟨n, by simp, Nat.zero_le _, h0, same_new hp _, [], upd_same, rfl, fun j v e => by simp at e⟩, ?_⟩
  rintro i m σ' H' ⟨rfl, hi, ⟨t, rfl⟩, s1, ys, ey, hl, hG⟩
  by_cases hlt : i < n
  · refine .inr ⟨hlt, fun x H2 y => ?_⟩
    obtain ⟨e1, e2⟩ := y
    subst e1 e2
    show te (some (.int (lo + i)) :: rest) _ _
    refine he i _ _ hlt s1 ⟨ys, ey⟩ fun y H3 s3 g3 => ?_
    have up : ∀ b o, b ≠ p → H3 b = some o → (upd H3 p (.lst (ys ++ [y]))) b = some o := fun b o hb e => by rw [upd_ne hb]; exact e
    refine ⟨ys, s3 _ _ ey, by rw [hl]; exact small1000 (by omega), n - (i + 1), by omega, rfl, by omega, ⟨_, rfl⟩, same_upd (s1.trans s3) hp _, ys ++ [y], upd_same, by rw [List.length_append, hl]; rfl, fun j v e => ?_⟩
    rcases Nat.lt_trichotomy j ys.length with h | h | h
    · rw [List.getElem?_append_left h] at e
      exact mono j v _ _ (hG j v e) fun b o hb z => up b o hb (s3 b o z)
    · subst h
      simp at e
      subst e
      rw [hl]
      exact mono i y _ _ g3 up
    · rw [List.getElem?_eq_none (by rw [List.length_append, List.length_singleton]; omega)] at e
      cases e
  · have e : i = n := by omega
    subst e
    exact .inl ⟨Nat.le_refl _, hq ys H' s1 ey hl hG⟩
end L2

set_option Elab.async false
set_option linter.all false
set_option maxRecDepth 100000
set_option maxHeartbeats 4000000
namespace L2
open PySem PySem.Spec PyProof.Rows

/-! ### exceptions that fly -/
theorem ObjOk.got {P : Program} {w : World} {H : Hp} {h : Heap} {a : Addr} {o : HO} (x : ObjOk P w H h a o) : ∃ ob, h.get? a = some ob := by
  cases o with
  | lst xs => obtain ⟨_, _, _, _, e⟩ := x; exact ⟨_, e⟩
  | tup xs => obtain ⟨_, _, _, o, e, _⟩ := x; exact ⟨_, e⟩
  | dK kvs => obtain ⟨_, _, _, _, o, _, _, e, _⟩ := x; exact ⟨_, e⟩
  | dT kvs => obtain ⟨_, _, _, _, o, _, _, e, _⟩ := x; exact ⟨_, e⟩
  | set S n => obtain ⟨o, _, _, _, e, _⟩ := x; exact ⟨_, e⟩
  | ins C dx fs => obtain ⟨_, _, _, e, _⟩ := x; exact ⟨_, e⟩
  | own y => obtain ⟨_, e⟩ := x; exact ⟨_, e⟩
  | xd fs => obtain ⟨_, ⟨_, _, _, e, _⟩, _⟩ := x; exact ⟨_, e⟩
  | rng lo hi => obtain ⟨_, _, _, e⟩ := x; exact ⟨_, e⟩
  | frz ob u => obtain ⟨e, _⟩ := x; exact ⟨_, e⟩
  | tbl ps => exact ⟨_, (show h.get? a = some _ from x)⟩
  | met f y => exact ⟨_, (show h.get? a = some _ from x)⟩
  | ext φ => obtain ⟨_, e, _⟩ := x; exact e
theorem HOk.none_of {P : Program} {w : World} {H : Hp} {h : Heap} {a : Addr} (x : HOk P w H h) (e : h.get? a = none) : H a = none := by
  cases q : H a with
  | none => rfl
  | some u => obtain ⟨o, z⟩ := (x a u q).got; rw [e] at z; cases z

/-- an exception on its way: its record and its last station, both new since h0 and untracked -/
def Air (h0 : Heap) (H : Hp) (h : Heap) (a : Addr) (cls : Value) : Prop := ∃ oe vs T oT ts a0, h.get? a = some oe ∧ (oe.cls = cls ∧ vs[0]? = some a0) ∧ oe.data = .fields vs ∧ vs[1]? = some (.ref T) ∧ T ≠ a ∧ h.get? T = some oT ∧ oT.data = .fields ts ∧ ts[3]? = some .none ∧
  (H a = none ∧ h0.get? a = none) ∧ (H T = none ∧ h0.get? T = none)
def cxE (P : Program) (w : World) : CXT := fun outer H s E e s' => ∃ (a : Addr) (cls : Value) (H' : Hp), e = .ref a ∧ s'.os = s.os ∧ AllBare s'.gens ∧ Un (frs outer) [] H H' s.heap s'.heap ∧ HOk P w H' s'.heap ∧ Air s.heap H' s'.heap a cls ∧ E cls none H'

section
variable {X : Cx} {pins : List (Addr × Obj)} {σ : St} {H : Hp} {s : Shared} {h' : Heap} {Z : List Addr}
theorem frame_mem {l : List Env} {env : Env} (he : env ∈ l) {b : Addr} (hb : env.frame = some b) : b ∈ frs l := List.mem_filterMap.mpr ⟨env, he, hb⟩
/-- what is new since a state of ours is none of our own things -/
theorem Inv.newZ (I : Inv X pins σ H s) (hex : X.ex = []) {z : Addr} (hz : s.heap.get? z = none) :
    X.s₀.heap.get? z = none ∧ z ≠ X.env.locals ∧ (∀ x c, X.env.cells.lookup x = some c → c ≠ z) ∧ ∀ p ∈ X.pn ++ pins, p.1 ≠ z := by
  refine ⟨?_, ?_, ?_, ?_⟩
  · cases q : X.s₀.heap.get? z with
    | none => rfl
    | some o =>
      obtain ⟨o', e⟩ := I.base.there z o q (by rw [hex]; simp)
      rw [hz] at e; cases e
  · rintro rfl
    obtain ⟨m, ⟨o, _, _, e, _⟩, _⟩ := I.loc
    rw [hz] at e; cases e
  · rintro x c e rfl
    obtain ⟨v, o, q, _⟩ := I.cell x c e
    rw [hz] at q; cases q
  · rintro p hp rfl
    have := (I.pin p hp).1
    rw [hz] at this; cases this
/-- behind a step of an exception's way: all but the records at Z is kept, of the frames the slots may change -/
theorem Inv.flown (I : Inv X pins σ H s) (hex : X.ex = []) (hZ : ∀ z ∈ Z, H z = none ∧ X.s₀.heap.get? z = none ∧ z ≠ X.env.locals ∧ (∀ x c, X.env.cells.lookup x = some c → c ≠ z) ∧ ∀ p ∈ X.pn ++ pins, p.1 ≠ z)
    (keep : ∀ b o, s.heap.get? b = some o → b ∉ Z → b ∉ frs X.stack → h'.get? b = some o) (slots : ∀ b o, s.heap.get? b = some o → b ∈ frs X.stack → ∃ sl, h'.get? b = some { o with slots := sl }) :
    Inv X pins σ H { s with heap := h' } := by
  have any : ∀ b o, s.heap.get? b = some o → b ∉ Z → ∃ sl, h'.get? b = some { o with slots := sl } := fun b o e hz => by
    by_cases hb : b ∈ frs X.stack
    · exact slots b o e hb
    · exact ⟨o.slots, keep b o e hz hb⟩
  have neZ : ∀ b o, X.s₀.heap.get? b = some o → b ∉ Z := fun b o e hb => by rw [(hZ b hb).2.1] at e; cases e
  have nex : ∀ b, b ∉ X.ex := fun b => by rw [hex]; simp
  have hidden : ∀ b u, H b = some u → b ∉ Z ∧ b ∉ frs X.stack := fun b u e => ⟨fun z => (by rw [(hZ b z).1] at e; cases e), fun z => (by rw [I.stkFree b z] at e; cases e)⟩
  refine ⟨I.ok, I.os, I.bare, ⟨fun b o e n hb hx => ?_, fun b o e n hb hx => ?_, I.base.free, fun b o e hx => ?_, I.base.tups, I.base.frzs, I.base.tbls⟩, ?_, fun x c e => ?_, I.free, I.freeC, fun p hp => ?_, fun b u q => ?_, I.len⟩
  · refine keep b o (I.base.keep b o e n hb hx) (neZ b o e) fun z => ?_
    rcases List.mem_cons.mp (I.stkSub b z) with r | r
    · rw [r] at e
      exact absurd (Nat.lt_of_lt_of_le (Heap.lt_size e) I.ok.above) (Nat.lt_irrefl _)
    · exact hb r
  · obtain ⟨sl, e1⟩ := I.base.slot b o e n hb hx
    obtain ⟨sl', e2⟩ := any b _ e1 (neZ b o e)
    exact ⟨sl', e2⟩
  · obtain ⟨o', e1⟩ := I.base.there b o e hx
    obtain ⟨sl, e2⟩ := any b _ e1 (neZ b o e)
    exact ⟨_, e2⟩
  · obtain ⟨m, hn, hl⟩ := I.loc
    refine ⟨m, ?_, fun i x v e1 e2 e3 => ?_⟩
    · obtain ⟨o, es, ep, ho, r⟩ := hn
      obtain ⟨sl, e⟩ := any _ o ho fun z => (hZ _ z).2.2.1 rfl
      exact ⟨_, es, ep, e, r⟩
    · obtain ⟨u, r, l⟩ := hl i x v e1 e2 e3
      refine ⟨u, r, ?_⟩
      rcases l with l | ⟨k, c, e, o, ho, hd⟩
      · exact .inl l
      · obtain ⟨sl, q⟩ := any c o ho fun z => (hZ _ z).2.2.2.1 x c e rfl
        exact .inr ⟨k, c, e, _, q, hd⟩
  · obtain ⟨v, o, ho, hd⟩ := I.cell x c e
    obtain ⟨sl, q⟩ := any c o ho fun z => (hZ _ z).2.2.2.1 x c e rfl
    exact ⟨v, _, q, hd⟩
  · obtain ⟨e, n, ne, nf, d⟩ := I.pin p hp
    refine ⟨keep p.1 p.2 e (fun z => (hZ _ z).2.2.2.2 p hp rfl) fun z => ?_, n, ne, nf, d⟩
    rcases List.mem_cons.mp (I.stkSub _ z) with r | r
    · exact ne r
    · exact nf r
  · refine (I.hok b u q).stay (fun c v hc e => ?_) (fun _ r => r) fun _ _ r => r
    have hh : c ∉ Z ∧ c ∉ frs X.stack := by
      rcases hc with r | r
      · rw [r]; exact hidden b u q
      · exact hidden c _ r
    exact keep c v e hh.1 hh.2
/-- .. and the exception stays in the air -/
theorem Inv.air {P : Program} {w : World} {B h0 : Heap} {l : List Env} {a : Addr} {cls a0 : Value} (I : Inv X pins σ H s) (hZ : ∀ z ∈ Z, H z = none ∧ h0.get? z = none) (hB : ∀ b, B.get? b = none → s.heap.get? b = none ∨ b ∈ Z ∨ b ∈ frs X.stack)
    (h0s : ∀ b o, h0.get? b = some o → ∃ o', s.heap.get? b = some o') (slots : ∀ b o, s.heap.get? b = some o → b ∈ frs X.stack → ∃ sl, h'.get? b = some { o with slots := sl }) (ha : H a = none ∧ h0.get? a = none) (F : Heap.FlyingW B l a cls a0 h') : Air h0 H h' a cls := by
  obtain ⟨_, _, _, oe, vs, T, oT, ts, he, hc, hd, h1, hT, hTe, hTT, hTd, h3⟩ := F
  refine ⟨oe, vs, T, oT, ts, a0, he, hc, hd, h1, hTe, hTT, hTd, h3, ha, ?_⟩
  rcases hB T hT with r | r | r
  · refine ⟨I.hok.none_of r, ?_⟩
    cases q : h0.get? T with
    | none => rfl
    | some o =>
      obtain ⟨o', e⟩ := h0s T o q
      rw [r] at e; cases e
  · exact hZ T r
  · obtain ⟨_, o, ho, hnf⟩ := I.stack.mem r
    obtain ⟨sl, e⟩ := slots T o ho r
    rw [hTT] at e
    cases e
    exact absurd hTd (hnf ts)
/-- the exception as the library's rules want it -/
theorem Air.fly {base h0 h : Heap} {l : List Env} {a : Addr} {cls : Value} (A : Air h0 H h a cls) (hf : h.FunFrames base l) : ∃ T a0, (H T = none ∧ h0.get? T = none) ∧ (H a = none ∧ h0.get? a = none) ∧ Heap.FlyingW (PySem.W.hideAll h (a :: T :: frs l)) l a cls a0 h := by
  obtain ⟨oe, vs, T, oT, ts, a0, he, hc, hd, h1, hTe, hTT, hTd, h3, ha, hT⟩ := A
  refine ⟨T, a0, hT, ha, fun b o e => PySem.W.of_hideAll _ e, PySem.W.hideAll_none _ (List.mem_cons_self), PySem.W.funFrames_hide hf fun env he b hb => List.mem_cons_of_mem _ (List.mem_cons_of_mem _ (frame_mem he hb)), oe, vs, T, oT, ts, he, hc, hd, h1, PySem.W.hideAll_none _ (List.mem_cons_of_mem _ List.mem_cons_self), hTe, hTT, hTd, h3⟩
theorem hide_none {h : Heap} {as : List Addr} {b : Addr} (e : (PySem.W.hideAll h as).get? b = none) : h.get? b = none ∨ b ∈ as := by
  by_cases hb : b ∈ as
  · exact .inr hb
  · cases q : h.get? b with
    | none => exact .inl rfl
    | some o => rw [PySem.W.hideAll_get _ q hb] at e; cases e
/-- the flight goes on within a state of ours -/
structure Flies (X : Cx) (pins : List (Addr × Obj)) (σ : St) (H : Hp) (s : Shared) (h0 : Heap) (a : Addr) (cls : Value) : Prop where
  inv : Inv X pins σ H s
  air : Air h0 H s.heap a cls
  new : ∀ z, h0.get? z = none → X.s₀.heap.get? z = none ∧ z ≠ X.env.locals ∧ (∀ x c, X.env.cells.lookup x = some c → c ≠ z) ∧ ∀ p ∈ X.pn ++ pins, p.1 ≠ z
  sub : ∀ b o, h0.get? b = some o → ∃ o', s.heap.get? b = some o'
theorem Flies.next {h0 B : Heap} {l : List Env} {a T : Addr} {cls a0 : Value} (F : Flies X pins σ H s h0 a cls) (hex : X.ex = []) (hT : H T = none ∧ h0.get? T = none) (ha : H a = none ∧ h0.get? a = none) (hBe : B = PySem.W.hideAll s.heap (a :: T :: frs X.stack))
    (G : Heap.FlyingW B l a cls a0 h') (u : s.heap.UpToSlots h') : Flies X pins σ H { s with heap := h' } h0 a cls := by
  subst hBe
  have hZ : ∀ z ∈ [a, T], H z = none ∧ h0.get? z = none := fun z hz => by
    rcases List.mem_cons.mp hz with r | r
    · rw [r]; exact ha
    · rw [List.mem_singleton.mp r]; exact hT
  have keep : ∀ b o, s.heap.get? b = some o → b ∉ [a, T] → b ∉ frs X.stack → h'.get? b = some o := fun b o e h1 h2 => by
    refine G.1 b o (PySem.W.hideAll_get _ e fun z => ?_)
    rcases List.mem_cons.mp z with r | r
    · exact h1 (by simp [r])
    · rcases List.mem_cons.mp r with r | r
      · exact h1 (by simp [r])
      · exact h2 r
  have slots : ∀ b o, s.heap.get? b = some o → b ∈ frs X.stack → ∃ sl, h'.get? b = some { o with slots := sl } := fun b o e hb => by
    obtain ⟨_, o', ho, hnf⟩ := F.inv.stack.mem hb
    rw [e] at ho; cases ho
    exact u b o e hnf
  refine ⟨F.inv.flown hex (Z := [a, T]) (fun z hz => ⟨(hZ z hz).1, F.new z (hZ z hz).2⟩) keep slots, F.inv.air (P := X.prog) (w := X.w) (Z := [a, T]) hZ (fun b e => ?_) F.sub slots ha G, F.new, fun b o e => ?_⟩
  · rcases hide_none e with r | r
    · exact .inl r
    · rcases List.mem_cons.mp r with r | r
      · exact .inr (.inl (by simp [r]))
      · rcases List.mem_cons.mp r with r | r
        · exact .inr (.inl (by simp [r]))
        · exact .inr (.inr r)
  · obtain ⟨o', e'⟩ := F.sub b o e
    by_cases hb : b ∈ frs X.stack
    · obtain ⟨sl, q⟩ := slots b o' e' hb
      exact ⟨_, q⟩
    · refine ⟨o', keep b o' e' (fun z => ?_) hb⟩
      rw [(hZ b z).2] at e; cases e
/-- an exception of a call in a state of ours -/
theorem Flies.of_cx {E : XK} {e : Value} {s' : Shared} (I : Inv X pins σ H s) (hex : X.ex = []) (h : cxE X.prog X.w X.stack H s E e s') : ∃ a cls H', e = .ref a ∧ Flies X pins σ H' s' s.heap a cls ∧ E cls none H' := by
  obtain ⟨a, cls, H', rfl, os, bare, un, hok, air, q⟩ := h
  have I' := I.call' (ch := []) os un hok bare (fun b z => nomatch z)
  exact ⟨a, cls, H', rfl, ⟨I', air, fun z hz => I.newZ hex hz, fun b o e => un.there b o e (by simp)⟩, q⟩
end

section
variable {P : Program} {w : World} {K : PySem.W.Frag} {mg : Str → Option Value} {base : Heap} {N : List Str} {qual : Str} {scope : Scope} {f : Addr} {cd : Value} {A : Around} {outer : List Env} {s₀ : Shared} {H₀ : Hp} {E : XK}
/-- behind the leaving: as the caller wants it -/
theorem Flies.out {X : Cx} {pins : List (Addr × Obj)} {σ : St} {H : Hp} {s : Shared} {h0 : Heap} {a : Addr} {cls : Value} (F : Flies X pins σ H s h0 a cls) (hex : X.ex = []) (h1 : X.s₀ = s₀) (h2 : X.H₀ = H₀) (h3 : X.outer = outer) (h4 : X.prog = P) (h5 : X.w = w)
    (q : E cls none H) : cxE P w outer H₀ s₀ E (.ref a) s := by
  subst h1 h2 h3 h4 h5
  obtain ⟨oe, vs, T, oT, ts, a0, he, hc, hd, h1, hTe, hTT, hTd, h3, ha, hT⟩ := F.air
  refine ⟨a, cls, H, rfl, F.inv.os, F.inv.bare, by have := F.inv.base; rw [hex] at this; exact this, F.inv.hok, ⟨oe, vs, T, oT, ts, a0, he, hc, hd, h1, hTe, hTT, hTd, h3, ⟨ha.1, (F.new a ha.2).1⟩, hT.1, (F.new T hT.2).1⟩, q⟩
end

/-- an exception of a callee reaches what this body wants, by the values of the names there -/
def PassesS (CX : CXT) (X : Cx) (W : St → XK) : Prop := ∀ (pins : List (Addr × Obj)) (σ : St) (H : Hp) (s : Shared) (e : Value) (s' : Shared), Inv X pins σ H s → CX X.stack H s (W σ) e s' → X.xe e s'
section
variable {P : Program} {w : World} {K : PySem.W.Frag} {mg : Str → Option Value} {base : Heap} {N : List Str} {qual : Str} {scope : Scope} {f : Addr} {cd : Value} {A : Around} {outer : List Env} {s₀ : Shared} {H₀ : Hp} {E : XK}
theorem passE : PassesS (cxE P w) (cxOf (cxE P w) P w K mg base N qual scope f cd A outer s₀ H₀ E) (fun _ => E) := by
  intro pins σ H s e s' I h
  obtain ⟨a, cls, H', rfl, F, q⟩ := Flies.of_cx I rfl h
  obtain ⟨T, a0, hT, ha, G⟩ := F.air.fly F.inv.stack
  refine wpAny_leaves_onW F.inv.ok.frames rfl G fun h' G' u => ?_
  exact (F.next (l := outer) rfl hT ha rfl G' u).out rfl rfl rfl rfl rfl rfl q
/-- an exception made here leaves -/
theorem bornE {pins : List (Addr × Obj)} {σ : St} {H : Hp} {s : Shared} {h1 : Heap} {a : Addr} {cls : Value} {args : List Value}
    (I : Inv (cxOf (cxE P w) P w K mg base N qual scope f cd A outer s₀ H₀ E) pins σ H s) (m : Heap.MadeExcOf s.heap h1 a cls args) (q : E cls none H) :
    (cxOf (cxE P w) P w K mg base N qual scope f cd A outer s₀ H₀ E).xe (.ref a) { s with heap := h1 } := by
  have hs := I.stack
  refine wpAny_leaves_madeW (s := { s with heap := h1 }) (base := PySem.W.hideAll s.heap (frs (cxOf (cxE P w) P w K mg base N qual scope f cd A outer s₀ H₀ E).stack)) I.ok.frames rfl (fun b o e => PySem.W.of_hideAll _ e) (PySem.W.funFrames_hide hs fun env he b hb => frame_mem he hb) m fun h' t G _ _ u => ?_
  have keep : ∀ b o, s.heap.get? b = some o → b ∉ ([] : List Addr) → b ∉ frs (cxOf (cxE P w) P w K mg base N qual scope f cd A outer s₀ H₀ E).stack → h'.get? b = some o := fun b o e _ hb => G.1 b o (PySem.W.hideAll_get _ e hb)
  have slots : ∀ b o, s.heap.get? b = some o → b ∈ frs (cxOf (cxE P w) P w K mg base N qual scope f cd A outer s₀ H₀ E).stack → ∃ sl, h'.get? b = some { o with slots := sl } := fun b o e hb => by
    obtain ⟨_, o', ho, hnf⟩ := hs.mem hb
    rw [e] at ho; cases ho
    exact u b o (m.keeps b o e) hnf
  have F : Flies (cxOf (cxE P w) P w K mg base N qual scope f cd A outer s₀ H₀ E) pins σ H { s with heap := h' } s.heap a cls :=
    ⟨I.flown rfl (Z := []) (fun z hz => nomatch hz) keep slots, I.air (P := P) (w := w) (Z := []) (fun z hz => nomatch hz) (fun b e => (hide_none e).imp id .inr) (fun b o e => ⟨o, e⟩) slots ⟨I.hok.none_of m.new, m.new⟩ G, fun z hz => I.newZ rfl hz, fun b o e => by
      by_cases hb : b ∈ frs (cxOf (cxE P w) P w K mg base N qual scope f cd A outer s₀ H₀ E).stack
      · obtain ⟨sl, q⟩ := slots b o e hb
        exact ⟨_, q⟩
      · exact ⟨o, keep b o e (by simp) hb⟩⟩
  exact F.out rfl rfl rfl rfl rfl rfl q
end
end L2

set_option Elab.async false
set_option linter.all false
set_option maxRecDepth 100000
set_option maxHeartbeats 4000000
namespace L2
open PySem PySem.Spec PyProof.Rows Builtin.ObjectAttr Builtin.Getset_descriptor
/-- the object at x is of the own class at C -/
def OfCls (h : Heap) (x C : Addr) : Prop := ∃ ox, h.get? x = some ox ∧ ox.cls = .ref C
theorem OfCls.look {M : Model} {h : Heap} {x C : Addr} (I : OfCls h x C) : PySem.W.Looks M h (typeOf (.ref x)) (.ref C) := by
  obtain ⟨ox, e, c⟩ := I
  intro A Q E s k q
  obtain ⟨h', g, d, t, os⟩ := s
  have e' := k x ox e
  unfold typeOf
  exact wpAny_bind (wpAny_loadPart e' (by rw [c]; exact wpAny_pure q))
section
variable {prog : Program} {w : World} {A : Around} {E : Value → Shared → Prop} {s : Shared} {K : PySem.W.Frag} {x C : Addr}
theorem exc_class_at {R : Result → Shared → Prop} {tp : Value} (X : K.In s.heap) (I : OfCls s.heap x C) (hm : PySem.W.mroIn K C (.type "object") = some true)
    (h : R (.ok (.ret (.ref C))) s) : codeAny (model prog w) A (.call (.builtin "getset_descriptor.__get__") ⟨[.builtin "object.__class__", .ref x, tp], []⟩) R s := by
  obtain ⟨hh, g, d, t, os⟩ := s
  have La := I.look (M := model prog w)
  have Lb := PySem.W.looks_mroIn (M := model prog w) X hm
  refine codeAny_call_builtin PySem.W.KF.slot_gs.plain PySem.W.KF.entry_gs (PySem.W.KF.slot_gs.check _ _ _ _ _ _ _ _ PySem.W.KF.type_class (PySem.W.KF.args_gs _ _ _) ?_)
  unfold Builtin.«getset_descriptor.__get__» descrGet
  rw [PySem.W.dga_obj]
  refine wpAny_bind (wpAny_pure ?_)
  unfold descrGetter descrCheckInstance descrNameAndClass isInstance; simp only [PySem.W.KF.owner_class]
  repeat (first | with_reducible refine La.at ?_ | with_reducible refine Lb.at ?_ | wp_step)
  refine ⟨Code.quiet_builtin _ (by decide +kernel), codeAny_builtin PySem.W.KF.entry_class ?_⟩
  unfold Builtin.«object.__class__» shownTypeOf
  repeat (first | with_reducible refine La.at ?_ | with_reducible refine Lb.at ?_ | wp_step)
  exact h
theorem exc_class_entry {tk : Tok} {Q : Fin → Shared → Prop} (X : K.In s.heap) (I : OfCls s.heap x C) (hf : PySem.W.findIn K (.ref C) "__class__" = some (some (.builtin "object.__class__"))) (hm : PySem.W.mroIn K C (.type "object") = some true)
    (hq : Q (.done (.ret (.ref C))) s) : wpAny (model prog w) A (Builtin.«object.__getattribute__» ⟨[.ref x, .str "__class__" tk], []⟩) Q E s := by
  obtain ⟨h, g, d, t, os⟩ := s
  have La := I.look (M := model prog w)
  have Lb := PySem.W.looks_findIn (M := model prog w) X hf
  have f5 := PySem.W.KF.type_class
  have hT5 : (⟨h, g, d, t, os⟩ : Shared).TypeIs (.builtin "object.__class__") "getset_descriptor" := PySem.W.KF.type_class
  have f6 := F.slot_gs_get.lookup
  have f7 := F.slot_gs_set.lookup
  repeat (any_goals (first | assumption | with_reducible refine La.at ?_ | with_reducible refine Lb.at ?_ | wp_step))
  exact exc_class_at X I hm (wpAny_pure hq)
theorem exc_check {M : Model} {nameV : Value} {Q : Unit → Shared → Prop} {h : Heap} {g : Array GenState} {d : Drawn} {t : Nat} {os : OsState} (X : K.In h) (I : OfCls h x C) (hb : PySem.W.mroIn K C (.type "BaseException") = some true)
    (hq : Q () ⟨h, g, d, t, os⟩) : wpAny M A (checkBuiltinCall "BaseException.__getattribute__" ⟨[.ref x, nameV], []⟩) Q E ⟨h, g, d, t, os⟩ := by
  have La := I.look (M := M)
  have Lb := PySem.W.looks_mroIn (M := M) X hb
  have e1 : builtinKind "BaseException.__getattribute__" = some .slot := by decide +kernel
  have e2 : splitId "BaseException.__getattribute__" = some ("BaseException", "__getattribute__") := by decide +kernel
  have e3 := F.args_bexc_ga (.ref x) nameV
  simp only [checkBuiltinCall, e1, e2]
  refine wpAny_bind ?_
  unfold isInstance
  refine wpAny_bind (La.at (Lb.at ?_))
  repeat (first | wp_step)
  exact hq
theorem exc_class_get {Q : Option Value → Shared → Prop} (X : K.In s.heap) (I : OfCls s.heap x C) (hf : PySem.W.findIn K (.ref C) "__class__" = some (some (.builtin "object.__class__"))) (hm : PySem.W.mroIn K C (.type "object") = some true)
    (hb : PySem.W.mroIn K C (.type "BaseException") = some true) (hga : PySem.W.findIn K (.ref C) "__getattribute__" = some (some (.builtin "BaseException.__getattribute__"))) (hh : PySem.W.findIn K (.ref C) "__getattr__" = some none)
    (hq : Q (some (.ref C)) { s with toks := s.toks + 1 }) : wpAny (model prog w) A (getAttr? (.ref x) "__class__") Q E s := by
  obtain ⟨h, g, d, t, os⟩ := s
  have La := I.look (M := model prog w)
  have Lb := PySem.W.looks_findIn (M := model prog w) X hga
  have Lc := PySem.W.looks_findIn (M := model prog w) X hh
  have f3 := F.excAttr_ValueError.ga.bind (.ref x)
  have e2 : (Value.builtin "BaseException.__getattribute__" == Value.builtin "object.__getattribute__") = false := by decide +kernel
  have e1 : (onTheHeap (Value.ref C) && Value.builtin "BaseException.__getattribute__" == Value.builtin "object.__getattribute__") = false := by rw [e2]; rfl
  unfold getAttr? getAttrBy? getAttrBy
  refine wpAny_bind (wpAny_mkText (wpAny_bind (wpAny_attempt (wpAny_holding (wpAny_bind (La.at (wpAny_bind (Lb.at ?_))))))))
  dsimp only
  rw [e1]
  repeat (any_goals (first | assumption | with_reducible refine La.at ?_ | with_reducible refine Lb.at ?_ | with_reducible refine Lc.at ?_ | wp_step))
  refine codeAny_call_builtin F.excAttr_ValueError.ga.plain F.entry_bexc_ga ?_
  refine exc_check (x := x) (C := C) X I hb ?_
  refine exc_class_entry (s := ⟨h, g, d, t + 1, os⟩) X I hf hm ?_
  show wpAny (model prog w) A (handedOut (Value.ref C)) _ _ _
  repeat (any_goals (first | assumption | wp_step))
end

/-- an own class of exceptions, as isinstance looks at it -/
structure XCls (K : PySem.W.Frag) (C : Addr) : Prop where
  at_ : PySem.W.findIn K (.ref C) "__class__" = some (some (.builtin "object.__class__"))
  ga : PySem.W.findIn K (.ref C) "__getattribute__" = some (some (.builtin "BaseException.__getattribute__"))
  hook : PySem.W.findIn K (.ref C) "__getattr__" = some none
  obj : PySem.W.mroIn K C (.type "object") = some true
  exc : PySem.W.mroIn K C (.type "BaseException") = some true
theorem XCls.obj_at {K : PySem.W.Frag} {C : Addr} (c : XCls K C) : ∃ o cd, K.lookup C = some o ∧ o.data = .cls cd := by
  obtain ⟨cd, a, _⟩ := Option.bind_eq_some_iff.mp c.obj
  unfold PySem.W.clsIn at a
  split at a
  · rename_i ho; exact ⟨_, _, ho, rfl⟩
  · cases a
theorem kitx_exc {K : PySem.W.Frag} {x C : Addr} (c : XCls K C) : PySem.W.KitX K (.ref x) (.ref C) (fun h => OfCls h x C) where
  ty := fun _ _ _ I => I.look
  it := fun _ _ X _ => by
    obtain ⟨o, cd, ho, hd⟩ := c.obj_at
    intro A' Q' E' s' k q
    unfold isType loadHead
    refine wpAny_bind (wpAny_loadPart (k _ _ (X _ _ ho)) ?_)
    rw [hd]
    exact wpAny_pure q
  ne := fun h tp dd its n sl X htp => by
    obtain ⟨o, cd, ho, hd⟩ := c.obj_at
    refine Bool.eq_false_iff.mpr fun q => ?_
    have e : C = tp := Value.ref.inj (beq_iff_eq.mp q)
    subst e
    have z := (X _ _ ho).symm.trans htp
    cases z
    cases hd
  ca := fun X I k => exc_class_get X I c.at_ c.obj c.exc c.ga c.hook k
/-- an exception that was caught, tracked by its class -/
abbrev XO (a C : Addr) : HO := .ext fun h => OfCls h a C
/-- isinstance of a caught exception -/
def rIsx (K : PySem.W.Frag) : List V → Hp → VK → Prop := fun xs H Q => ∃ (a C : Addr) (d : V) (c : Value) (b : Bool), xs = [.ref a, d] ∧ RelV d c ∧ H a = some (XO a C) ∧ XCls K C ∧ PySem.W.kitOne K (.ref C) c = some b ∧ Q (.bl b) H
theorem call_isx {X : Cx} : CallR X (.builtin "isinstance") (rIsx X.K) := by
  intro pins s σ H xs us Q I r h
  obtain ⟨a, C, d, c, b, rfl, rd, ea, xc, e, q⟩ := h
  obtain ⟨u, w', rfl, ru, rw'⟩ := r.two
  have ru : u = Value.ref a := ru
  subst ru
  obtain ⟨p, _⟩ := (show ObjOk X.prog X.w H s.heap a (XO a C) from I.hok a _ ea)
  have ew : w' = c := by
    cases d with
    | ref z => exact (show w' = Value.ref z from rw').trans (show c = Value.ref z from rd).symm
    | ty z => exact (show w' = Value.type z from rw').trans (show c = Value.type z from rd).symm
    | non => exact (show w' = Value.none from rw').trans (show c = Value.none from rd).symm
    | bl z => exact (show w' = Value.bool z from rw').trans (show c = Value.bool z from rd).symm
    | int z => obtain ⟨t, rfl⟩ := (show ∃ t, c = Value.int z t from rd); unfold PySem.W.kitOne PySem.W.kitCls at e; rw [if_neg (by intro q; cases (beq_iff_eq.mp q))] at e; cases e
    | str z => obtain ⟨t, rfl⟩ := (show ∃ t, c = Value.str z t from rd); unfold PySem.W.kitOne PySem.W.kitCls at e; rw [if_neg (by intro q; cases (beq_iff_eq.mp q))] at e; cases e
    | byt z => obtain ⟨t, rfl⟩ := (show ∃ t, c = Value.bytes z t from rd); unfold PySem.W.kitOne PySem.W.kitCls at e; rw [if_neg (by intro q; cases (beq_iff_eq.mp q))] at e; cases e
    | flt z => obtain ⟨t, rfl⟩ := (show ∃ t, c = Value.float z t from rd); unfold PySem.W.kitOne PySem.W.kitCls at e; rw [if_neg (by intro q; cases (beq_iff_eq.mp q))] at e; cases e
  subst ew
  exact PySem.W.kia_one (kitx_exc xc) I.kIn p e (fun z => nomatch z) fun tk => ⟨.bl b, H, I.tok tk, rfl, q⟩
end L2

set_option Elab.async false
set_option linter.all false
set_option maxRecDepth 100000
set_option maxHeartbeats 4000000
namespace L2
open PySem PySem.Spec PyProof.Rows

/-! ### raise C("..") of an own class under ValueError -/
abbrev bmV : List Value := [.type "ValueError", .type "Exception", .type "BaseException", .type "object"]
/-- an own class of exceptions at C whose line of classes goes on with bm and ends as ValueError's -/
def excK (K : PySem.W.Frag) (C : Addr) (bm : List Value) : Bool :=
  match K.lookup C with
  | none => false
  | some o => (match o.data with
    | .cls cd => o.cls == .type "type" && cd.mro == .ref C :: bm && !cd.hasDel && PySem.W.tailIn K bmV bm && PySem.W.nsOkIn K cd.ns && PySem.W.nsIn K cd.ns "__init__" == some none && decide (o.slots.size = 6) && o.slots[4]? == some (some (.builtin "ValueError.__new__"))
    | _ => false)
theorem exc_in {K : PySem.W.Frag} {h : Heap} {C : Addr} {bm : List Value} (X : K.In h) (q : excK K C bm = true) :
    ∃ N nm qn bs hd sn sub ab col dd k0 k1 k2 k3 k5 mN, h.get? C = some (excClassObj nm qn C N bs bm hd sn sub ab col dd k0 k1 k2 k3 k5 "ValueError.__new__") ∧ h.Ns N mN ∧ mN "__init__" = none ∧ OwnTail h bmV bm := by
  unfold excK at q
  cases e : K.lookup C with
  | none => rw [e] at q; cases q
  | some o =>
    rw [e] at q
    obtain ⟨oc, dd, dt, sl⟩ := o
    cases dt with
    | cls cd =>
      obtain ⟨nm, bs, mro, N, qn, hd, sn, sub, ab, col, hdel⟩ := cd
      simp only [Bool.and_eq_true, beq_iff_eq, Bool.not_eq_true', decide_eq_true_eq] at q
      obtain ⟨⟨⟨⟨⟨⟨⟨q1, q2⟩, q3⟩, q4⟩, q5⟩, q6⟩, q7⟩, q8⟩ := q
      obtain ⟨l⟩ := sl
      obtain ⟨k0, k1, k2, k3, k5, rfl⟩ := six_places (l := l) (by simpa using q7) (by simpa using q8)
      subst q1 q2 q3
      exact ⟨N, nm, qn, bs, hd, sn, sub, ab, col, dd, k0, k1, k2, k3, k5, h.nsMap N, X _ _ e, .of_isNs (PySem.W.isNs_of_in X q5), PySem.W.nsMap_none_of_in X q5 q6, PySem.W.tail_of_in X q4⟩
    | _ => cases q
/-- an exception made here reaches what is wanted -/
def BornS (X : Cx) (W : St → XK) : Prop := ∀ (pins : List (Addr × Obj)) (σ : St) (H : Hp) (s : Shared) (h1 : Heap) (a : Addr) (cls : Value) (args : List Value), Inv X pins σ H s → Heap.MadeExcOf s.heap h1 a cls args → W σ cls none H → X.xe (.ref a) { s with heap := h1 }
theorem born {P : Program} {w : World} {K : PySem.W.Frag} {mg : Str → Option Value} {base : Heap} {N : List Str} {qual : Str} {scope : Scope} {f : Addr} {cd : Value} {A : Around} {outer : List Env} {s₀ : Shared} {H₀ : Hp} {E : XK} :
    BornS (cxOf (cxE P w) P w K mg base N qual scope f cd A outer s₀ H₀ E) (fun _ => E) := fun pins σ H s h1 a cls args I m q => bornE I m q
def tRaise (W : St → XK) (C : Addr) (t : TA) : TS := fun _ σ H => t σ H fun vs H1 => vs.length ≤ 10 ∧ W σ (.ref C) none H1
theorem ps_raise {X : Cx} {W : St → XK} {C : Addr} {bm : List Value} {x : Str} {np cpos pos : Pos} {e : Expr} {es : List Expr} {t : TA} (hB : BornS X W) (hc : X.calm = true) (hg : Gl X x) (hm : X.mg x = some (.ref C)) (hx : excK X.K C bm = true) (ha : PA X (e :: es) t)
    (hdb : (x == ("__debug__" : Str)) = false := by decide) (he : starEach (e :: es) X.env = (false, eval e X.env) :: starEach es X.env := by rfl) (hpl : (backTo cpos (starEach es X.env)).any (·.1) = false := by rfl) :
    PS X (.Raise (some (.Call (.Name x np) (e :: es) [] cpos)) none pos) (tRaise W C t) := by
  intro pins s σ H D I h
  obtain ⟨N, nm, qn, bs, hd, sn, sub, ab, col, dd, k0, k1, k2, k3, k5, mN, hC, hN, hni, T⟩ := exc_in I.ok.mod.kin hx
  refine wpAny_Raise_call_subT (C := C) (nm := nm) (q := qn) (N := N) (bs := bs) (bm := bm) (hdct := hd) (sn := sn) (sub := sub) (ab := ab) (col := col) (dd := dd) (k0 := k0) (k1 := k1) (k2 := k2) (k3 := k3) (k5 := k5)
    PySem.F.excBase_ValueError (mN := mN) (T.hasType PySem.F.excBase_ValueError.hasBase) (I.ok.hd hc) ?_ hni (ld_glob I hg hm ⟨rfl, ?_⟩ hdb)
  · rw [he]
    show (false || (backTo cpos (starEach es X.env)).any (·.1)) = false
    rw [hpl]; rfl
  · have ha' := ha cpos pins s σ H _ I h
    rw [he] at ha' ⊢
    refine Calls.evalArgs_plain (thn ha' fun us s2 ⟨vs, H2, I2, r, hl, q⟩ => ?_)
    refine ⟨rfl, ?_, I2.bk _ _ hC, hN.keeps I2.bk, T.keeps I2.bk, fun h' a m => hB pins σ H2 s2 h' a _ _ I2 m q⟩
    have := r.length
    show us.length ≤ sizeLine
    exact Nat.le_of_lt (small1000 (by omega))

/-! ### except M as n: return .. -/
theorem exc_matches {M : Model} {A : Around} {E : Value → Shared → Prop} {K : PySem.W.Frag} {s : Shared} {a C D : Addr} {bm bd : List Value} {Q : Bool → Shared → Prop} (X : K.In s.heap) (hC : excK K C bm = true) (hD : excK K D bd = true) (hm : bm.contains (.ref D) = true) (hb : bd.contains (.type "BaseException") = true)
    (I : OfCls s.heap a C) (hq : Q true s) : wpAny M A (excMatches (.ref a) (.ref D)) Q E s := by
  obtain ⟨h, g, d, t, os⟩ := s
  obtain ⟨N, nm, qn, bs, hd, sn, sub, ab, col, dd, k0, k1, k2, k3, k5, mN, eC, _⟩ := exc_in X hC
  obtain ⟨N', nm', qn', bs', hd', sn', sub', ab', col', dd', k0', k1', k2', k3', k5', mN', eD, _⟩ := exc_in X hD
  obtain ⟨oe, ea, hc⟩ := I
  have z1 : (Value.ref D :: bd).contains (.type "BaseException") = true := by rw [List.contains_cons, hb, Bool.or_true]
  have z2 : (Value.ref C :: bm).contains (.ref D) = true := by rw [List.contains_cons, hm, Bool.or_true]
  have f := tc_notTuple
  unfold excMatches
  repeat (first | (with_reducible refine wpAny_loadPart_at ea ?_; rw [hc]) | with_reducible refine wpAny_loadPart_at eD ?_ | (with_reducible refine wpAny_isSubtype_exc eD ?_; rw [z1]) | (with_reducible refine wpAny_isSubtype_exc eC ?_; rw [z2]) | wp_step)
  exact hq

theorem Air.of {h0 h : Heap} {H : Hp} {a C : Addr} (A : Air h0 H h a (.ref C)) : OfCls h a C := by
  obtain ⟨oe, vs, T, oT, ts, a0, he, hc, _⟩ := A
  exact ⟨oe, he, hc.1⟩
/-- within a try's suite: what was pinned is borne, an exception is wanted as E' says -/
abbrev Cx.bear (X : Cx) (pins : List (Addr × Obj)) (E' : Value → Shared → Prop) : Cx := { X with pn := X.pn ++ pins, xe := E' }
/-- within an except suite: the exception at a is handled; none leaves -/
abbrev Cx.inX (X : Cx) (a : Addr) : Cx := { X with A := X.A.mark (some (.ref a)), calm := false, xe := fun _ _ => False }
section
variable {X : Cx} {pins pins' : List (Addr × Obj)} {σ : St} {H : Hp} {s : Shared} {E' : Value → Shared → Prop} {a : Addr}
theorem Inv.bear (I : Inv X pins σ H s) (E' : Value → Shared → Prop) : Inv (X.bear pins E') [] σ H s :=
  ⟨⟨I.ok.mod, I.ok.kind, I.ok.glob, I.ok.blt, I.ok.above, I.ok.inj, I.ok.has, I.ok.cab, I.ok.hd, I.ok.frames, I.ok.stk, I.ok.exf, I.ok.bs, I.ok.bsz, I.ok.noex, I.ok.exfs, I.ok.funs, I.ok.frf⟩, I.os, I.bare, I.base, I.loc, I.cell, I.free, I.freeC, fun p hp => I.pin p (by simpa using hp), I.hok, I.len⟩
theorem Inv.unbear (I : Inv (X.bear pins E') pins' σ H s) : Inv X pins σ H s :=
  ⟨⟨I.ok.mod, I.ok.kind, I.ok.glob, I.ok.blt, I.ok.above, I.ok.inj, I.ok.has, I.ok.cab, I.ok.hd, I.ok.frames, I.ok.stk, I.ok.exf, I.ok.bs, I.ok.bsz, I.ok.noex, I.ok.exfs, I.ok.funs, I.ok.frf⟩, I.os, I.bare, I.base, I.loc, I.cell, I.free, I.freeC, fun p hp => I.pin p (List.mem_append_left _ hp), I.hok, I.len⟩
theorem SP.unbear {D : Ends} {f : Flow} (h : SP (X.bear pins E') [] D f s) : SP X pins D f s := by
  cases f with
  | next => obtain ⟨σ', H', I, q⟩ := h; exact ⟨σ', H', I.unbear, q⟩
  | brk => obtain ⟨σ', H', I, q⟩ := h; exact ⟨σ', H', I.unbear, q⟩
  | cont => obtain ⟨σ', H', I, q⟩ := h; exact ⟨σ', H', I.unbear, q⟩
  | ret u => obtain ⟨v, σ', H', I, r, q⟩ := h; exact ⟨v, σ', H', I.unbear, r, q⟩
theorem Inv.toX (I : Inv X pins σ H s) (a : Addr) : Inv (X.inX a) pins σ H s :=
  ⟨⟨I.ok.mod, I.ok.kind, I.ok.glob, I.ok.blt, I.ok.above, I.ok.inj, I.ok.has, I.ok.cab, (fun z => nomatch z), I.ok.frames, I.ok.stk, I.ok.exf, I.ok.bs, I.ok.bsz, I.ok.noex, I.ok.exfs, I.ok.funs, I.ok.frf⟩, I.os, I.bare, I.base, I.loc, I.cell, I.free, I.freeC, I.pin, I.hok, I.len⟩
theorem Inv.ofX (ok : X.Ok) (I : Inv (X.inX a) pins σ H s) : Inv X pins σ H s := ⟨ok, I.os, I.bare, I.base, I.loc, I.cell, I.free, I.freeC, I.pin, I.hok, I.len⟩
/-- a new untracked thing is tracked -/
theorem Inv.track {o : HO} (I : Inv X pins σ H s) (hn : H a = none) (h0 : X.s₀.heap.get? a = none) (hL : a ≠ X.env.locals) (hc : ∀ x c, X.env.cells.lookup x = some c → c ≠ a) (hp : ∀ p ∈ X.pn ++ pins, p.1 ≠ a)
    (new : ObjOk X.prog X.w (upd H a o) s.heap a o) : Inv X pins σ (upd H a o) s := by
  refine ⟨I.ok, I.os, I.bare, ⟨I.base.keep, I.base.slot, fun b ob e n hx => ?_, I.base.there, fun b xs q => ?_, fun b u xs q => ?_, fun b ps q => ?_⟩, I.loc, I.cell, ?_, fun x c e => ?_, fun p hp' => ?_, fun b u e => ?_, I.len⟩
  · rw [upd_ne (by rintro rfl; rw [h0] at e; cases e)]; exact I.base.free b ob e n hx
  · have := I.base.tups b xs q
    rw [upd_ne (ne_of_none this hn)]; exact this
  · have := I.base.frzs b u xs q
    rw [upd_ne (ne_of_none this hn)]; exact this
  · obtain ⟨m, e⟩ := I.base.tbls b ps q
    exact ⟨m, by rw [upd_ne (ne_of_none e hn)]; exact e⟩
  · rw [upd_ne (Ne.symm hL)]; exact I.free
  · rw [upd_ne (hc x c e)]; exact I.freeC x c e
  · obtain ⟨e, n, r⟩ := I.pin p hp'
    exact ⟨e, by rw [upd_ne (hp p hp')]; exact n, r⟩
  · by_cases hb : b = a
    · subst hb; rw [upd_same] at e; cases e; exact new
    · rw [upd_ne hb] at e
      exact (I.hok b u e).stay (fun c v _ q => q) (fun c q => by rw [upd_ne (ne_of_none q hn)]; exact q) fun c xs q => by rw [upd_ne (ne_of_none q hn)]; exact q
/-- the frame's names are forgotten -/
theorem Inv.lost {h' : Heap} {m' : Str → Option Value} {t' : Nat} (I : Inv X pins σ H s) (hn : h'.Ns X.env.locals m') (hs : Heap.SameBut X.env.locals s.heap h') : Inv X pins (List.replicate X.N.length none) H { s with heap := h', toks := t' } := by
  have neL : ∀ b o, X.s₀.heap.get? b = some o → b ≠ X.env.locals := fun b o e => Nat.ne_of_lt (Nat.lt_of_lt_of_le (Heap.lt_size e) I.ok.above)
  refine ⟨I.ok, I.os, I.bare, ⟨fun b o e n hb hx => ?_, fun b o e n hb hx => ?_, I.base.free, fun b o e hx => ?_, I.base.tups, I.base.frzs, I.base.tbls⟩, ⟨m', hn, fun i x v e1 e2 e3 => ?_⟩, fun x c e => ?_, I.free, I.freeC, fun p hp => ?_, fun b u e => ?_, by simp⟩
  · exact (hs.2 b (neL b o e)).trans (I.base.keep b o e n hb hx)
  · obtain ⟨sl, e1⟩ := I.base.slot b o e n hb hx
    exact ⟨sl, (hs.2 b (neL b o e)).trans e1⟩
  · obtain ⟨o', e1⟩ := I.base.there b o e hx
    exact ⟨o', (hs.2 b (neL b o e)).trans e1⟩
  · rw [List.getElem?_replicate] at e2
    split at e2 <;> cases e2
  · obtain ⟨v, z⟩ := I.cell x c e
    exact ⟨v, z.sameBut hs (I.cne x c e)⟩
  · obtain ⟨e, n, ne, nf, d⟩ := I.pin p hp
    exact ⟨(hs.2 p.1 ne).trans e, n, ne, nf, d⟩
  · refine (I.hok b u e).stay (fun c v hc q => (hs.2 c ?_).trans q) (fun _ q => q) fun _ _ q => q
    rintro rfl
    rcases hc with r | r
    · rw [← r, I.free] at e; cases e
    · rw [I.free] at r; cases r
end
/-- try: .. except M as n: (a suite that returns) -/
def tTry (K : PySem.W.Frag) (M : Addr) (i : Nat) (tb : (St → XK) → TS) (th : TS) : TS := fun D σ H =>
  tb (fun σ' cls _ H' => ∃ (C : Addr) (bm : List Value), cls = .ref C ∧ excK K C bm = true ∧ bm.contains (.ref M) = true ∧ ∀ a, H' a = none → th { nx := fun _ _ => False, rt := D.rt } (σ'.set i (some (.ref a))) (upd H' a (XO a C))) D σ H
theorem ps_try {X : Cx} {M : Addr} {i : Nat} {n x : Str} {b₀ : Stmt} {body suite : List Stmt} {tb : (St → XK) → TS} {th : TS} {np hpos pos : Pos} (hex : X.ex = []) (hstk : X.stack = X.env :: X.outer) (hfr : X.env.frame = some X.env.locals)
    (hN : X.N.Nodup) (hi : X.N[i]? = some n) (hlo : X.env.scope.names.lookup n = some .local) (hg : Gl X x) (hm : X.mg x = some (.ref M)) (hM : excK X.K M bmV = true)
    (hb : ∀ W pins E', PassesS (cxE X.prog X.w) (X.bear pins E') W → PSs (X.bear pins E') body (tb W)) (hs : ∀ a, PSs (X.inX a) (b₀ :: suite) th) (hdb : (x == ("__debug__" : Str)) = false := by decide) :
    PS X (.Try body [.ExceptHandler (some (.Name x np)) (some n) (b₀ :: suite) hpos] [] [] pos) (tTry X.K M i tb th) := by
  intro pins s σ H D I h
  refine wpAny_Try_except (wpAny_mono (hb _ pins _ ?_ [] s σ H D (I.bear _) h) (fun f s1 q => ?_) fun e s1 q => q)
  · intro pins' σ' H1 s1 e s2 I1 hc
    have J := I1.unbear
    obtain ⟨a, cls, H', rfl, F, C, bm, rfl, hC, hCM, q⟩ := Flies.of_cx J hex hc
    obtain ⟨T, a0, hT, ha, G⟩ := F.air.fly F.inv.stack
    have hfs := F.inv.ok.frames
    rw [hstk] at hfs
    have G1 := G
    rw [hstk] at G1
    refine wpAny_looks_onW hfs hfr G1 fun h4 held4 u4 => ?_
    refine wpAny_landsW held4 fun h5 G5 u5 => ?_
    have F5 := F.next hex hT ha (by rw [hstk]) G5 (u4.trans u5)
    refine wpAny_handleBy_cons (codeAny_handlers_test (ld_glob (X := X.inX a) (F5.inv.toX a) hg hm ?_ hdb)) (by intro q; cases q)
    refine exc_matches F5.inv.kIn hC hM hCM (by decide) F5.air.of ?_
    refine codeAny_handlers_suite_as ?_
    obtain ⟨T5, a5, hT5, ha5, G6⟩ := F5.air.fly F5.inv.stack
    refine lands_againW G6 fun h6 G6' u6 => ?_
    have F6 := F5.next hex hT5 ha5 rfl G6' u6
    have z := F6.new a ha5.2
    have J6 : Inv X pins σ' (upd H' a (XO a C)) _ := F6.inv.track ha5.1 z.1 z.2.1 z.2.2.1 z.2.2.2 ⟨F6.air.of, (let ⟨o, e, _⟩ := F6.air.of; ⟨o, e⟩), fun g1 g2 ⟨o, e, c⟩ k => ⟨o, k o e, c⟩⟩
    refine store_ok J6 hN hi (.inl hlo) (v := .ref a) rfl (fun s7 J7 => ?_) (.inr hlo)
    refine wpAny_mono (hs a pins s7 _ _ _ (J7.toX a) (q a ha5.1)) (fun f s8 q8 => ?_) fun _ _ z => z.elim
    cases f with
    | next => obtain ⟨_, _, _, z⟩ := q8; exact z.elim
    | brk => obtain ⟨_, _, _, z⟩ := q8; exact z.elim
    | cont => obtain ⟨_, _, _, z⟩ := q8; exact z.elim
    | ret u =>
      obtain ⟨v, σ8, H8, J8, r8, q8⟩ := q8
      have J9 := Inv.ofX I.ok J8
      obtain ⟨m, hn, _⟩ := J9.loc
      exact wpAny_nameGoes hlo hn (by rw [I.ok.kind]; rfl) fun h' m' hn' hs' => ⟨v, _, H8, J9.lost hn' hs', r8, q8⟩
  · have q := SP.unbear q
    cases f with
    | next => exact wpAny_execs_nil q
    | brk => exact q
    | cont => exact q
    | ret u => exact q
end L2

set_option Elab.async false
set_option linter.all false
set_option maxRecDepth 100000
set_option maxHeartbeats 4000000
namespace L2
open PySem PySem.Spec PyProof.Rows

/-! ### defs that may refuse -/
structure DefX (P : Program) (w : World) (K : PySem.W.Frag) (mg : Str → Option Value) (base : Heap) (k : Nat) (x : Str) (ps : List Str) (sp : Sp) : Prop where
  ex : ∃ f fd, FnOk P w K mg base (cxE P w) k f fd ps sp ∧ mg x = some (.ref f) ∧ PySem.W.keepIn K (.ref f) = true ∧ Binds K fd ps []
section
variable {P : Program} {w : World} {K : PySem.W.Frag} {mg : Str → Option Value} {base : Heap}
theorem def_ofX {x : Str} {st : Stmt} {N ps : List Str} {k : Nat} {sp : Sp} (F : Src K mg x st ps) (S : FnScope N ps (defScope st)) (len : ∀ vs H Q E, sp vs H Q E → vs.length = ps.length)
    (hbody : ∀ (f : Addr) (cdv : Value) (A : Around) (outer : List Env) (s : Shared) (H : Hp) (vs : List V) (Q : VK) (E : XK), Room k (A.deeper (envOfC x (defScope st) s.heap.objs.size f cdv)) → sp vs H Q E →
      ∃ t, PSs (cxOf (cxE P w) P w K mg base N x (defScope st) f cdv A outer s H E) (defBody st) t ∧ t { nx := fun _ H' => Q .non H', rt := Q } (start N vs) H) : DefX P w K mg base (k + 1) x ps sp := by
  obtain ⟨f, fd, F, m, b⟩ := F.ex
  obtain ⟨⟨oc, od, kV, doc, pm, an, cdv, ct, osl, rfl, lk, hcd⟩, kp⟩ := F
  exact ⟨f, _, fn_of lk hcd S len fun A outer s H vs Q E hr hsp => hbody f cdv A outer s H vs Q E hr hsp, m, kp, b⟩
end
def tCallX (sp : Sp) (W : St → XK) (t : TA) : TE := fun σ H Q => t σ H fun vs H1 => sp vs H1 Q (W σ)
section
variable {X : Cx} {k : Nat} {x : Str} {ps : List Str} {sp : Sp} {W : St → XK} {p pos : Pos} {e : Expr} {es : List Expr} {t : TA}
theorem pe_defX (D : DefX X.prog X.w X.K X.mg X.base k x ps sp) (hr : Room k X.A) (hx : PassesS (cxE X.prog X.w) X W) (hg : Gl X x) (ha : PA X (e :: es) t)
    (hdb : (x == ("__debug__" : Str)) = false := by decide) (he : starEach (e :: es) X.env = (false, eval e X.env) :: starEach es X.env := by rfl) (hpl : (backTo pos (starEach es X.env)).any (·.1) = false := by rfl) :
    PE X (.Call (.Name x p) (e :: es) [] pos) (tCallX sp W t) := by
  obtain ⟨f, fd, F, hm, hk, hb⟩ := D.ex
  intro pins s σ H Q I h
  refine wpAny_Call_Name_kw (ld_glob I hg hm ?_ hdb)
  refine PySem.W.callWith_K (h₀ := X.base) I.ok.mod.kin hk (thn (ha pos pins s σ H _ I h) fun us s1 ⟨vs, H1, I1, r, q⟩ => ⟨I1.kIn, ?_⟩) he hpl
  have hl : us.length = ps.length := by rw [← r.length]; exact F.len _ _ _ _ q
  have hB := hb s1 us I1.kIn (by rw [List.append_nil]; exact hl)
  rw [List.append_nil] at hB
  refine wpAny_call (codeAny_mono (F.run X.A X.stack s1 H1 ⟨us, []⟩ us vs Q (W σ) hr I1.env0 hB r q) fun r s' hq => ?_)
  cases r with
  | error e => exact hx pins σ H1 s1 e s' I1 hq
  | ok fl =>
    cases fl with
    | ret u => exact I1.after hq
    | next => exact False.elim hq
    | brk => exact False.elim hq
    | cont => exact False.elim hq
end

/-! ### defs that are called while an exception is handled -/
structure RoomH (k : Nat) (A : Around) : Prop where
  dp : A.depth + 3 * k + 5 < recursionLimit
  un : A.units + 16 * k + 200 < cLine
theorem Room.marked {k : Nat} {A : Around} (r : Room k A) (h : Option Value) : RoomH k (A.mark h) := ⟨r.dp, r.un⟩
theorem RoomH.mono {j k : Nat} {A : Around} (r : RoomH k A) (h : j ≤ k) : RoomH j A := ⟨by have := r.dp; omega, by have := r.un; omega⟩
theorem RoomH.deeper {k : Nat} {A : Around} (r : RoomH (k + 1) A) (env : Env) : RoomH k (A.deeper env) :=
  ⟨by have := r.dp; show A.depth + 1 + 3 * k + 5 < _; omega, by have := r.un; show A.units + 3 + 16 * k + 200 < _; omega⟩
/-- a def's body while an exception is handled; none leaves -/
abbrev cxH (P : Program) (w : World) (K : PySem.W.Frag) (mg : Str → Option Value) (base : Heap) (N : List Str) (qual : Str) (scope : Scope) (f : Addr) (cd : Value) (A : Around) (outer : List Env) (s : Shared) (H : Hp) : Cx :=
  { cxOf CX0 P w K mg base N qual scope f cd A outer s H E0 with calm := false, xe := fun _ _ => False }
structure DefH (P : Program) (w : World) (K : PySem.W.Frag) (mg : Str → Option Value) (base : Heap) (k : Nat) (x : Str) (ps : List Str) (sp : Sp) : Prop where
  ex : ∃ f fd, (∀ vs H Q E, sp vs H Q E → vs.length = ps.length) ∧ (∀ (A : Around) (outer : List Env) (s : Shared) (H : Hp) (args : Args) (us : List Value) (vs : List V) (Q : VK) (E : XK), RoomH k A → Env0 P w K mg base A outer s H → BindsTo s fd args (ps.zip us) → Vals vs us → sp vs H Q E →
    codeAny (model P w) A (.call (.ref f) args) (CR CX0 outer P w H s Q E) s) ∧ mg x = some (.ref f) ∧ PySem.W.keepIn K (.ref f) = true ∧ Binds K fd ps []
section
variable {P : Program} {w : World} {K : PySem.W.Frag} {mg : Str → Option Value} {base : Heap}
theorem def_ofH {x : Str} {st : Stmt} {N ps : List Str} {k : Nat} {sp : Sp} (F : Src K mg x st ps) (S : FnScope N ps (defScope st)) (len : ∀ vs H Q E, sp vs H Q E → vs.length = ps.length)
    (hbody : ∀ (f : Addr) (cdv : Value) (A : Around) (outer : List Env) (s : Shared) (H : Hp) (vs : List V) (Q : VK) (E : XK), RoomH k (A.deeper (envOfC x (defScope st) s.heap.objs.size f cdv)) → sp vs H Q E →
      ∃ t, PSs (cxH P w K mg base N x (defScope st) f cdv A outer s H) (defBody st) t ∧ t { nx := fun _ H' => Q .non H', rt := Q } (start N vs) H) : DefH P w K mg base (k + 1) x ps sp := by
  obtain ⟨f, fd, F, m, b⟩ := F.ex
  obtain ⟨⟨oc, od, kV, doc, pm, an, cdv, ct, osl, rfl, lk, hcd⟩, kp⟩ := F
  refine ⟨f, _, len, fun A outer s H args us vs Q E hr e0 hb r hsp => ?_, m, kp, b⟩
  have hl := len _ _ _ _ hsp
  have KX : K.In s.heap := e0.mod.kin.keeps fun b o e => (e0.bs b o e).1
  have lim : s.heap.NoLimit := e0.mod.nolimit.keeps fun b o e => (e0.bs b o e).1
  have hkind : ∀ y ∈ ps.zip us, (defScope st).names.lookup y.1 = some .local ∨ ((defScope st).names.lookup y.1 = some .cell ∧ ((cellsFrom (s.heap.objs.size + 1) (defScope st).names []).lookup y.1).isSome = true) := fun ⟨n, v⟩ hy => by
    rcases S.par n (List.of_mem_zip hy).1 with q | q
    · exact .inl q
    · exact .inr ⟨q, PySem.W.cellsFrom_some _ _ _ (.inl q)⟩
  refine codeAny_call_function (by have := hr.dp; omega) (KX _ _ lk) rfl S.co S.gen rfl (PySem.W.codeRec_of KX hcd) (hb _ _ _ _ ?_)
  refine wpAny_newFunctionEnv_cells S.kind hkind fun env he s1 y => ?_
  subst he
  refine ⟨lim.keeps y.toInCall.keep, codeAny_func ?_⟩
  obtain ⟨t, ht, hq⟩ := hbody f cdv A outer s H vs Q E (hr.deeper _) hsp
  have I0 : Inv (cxOf CX0 P w K mg base N x (defScope st) f cdv { A with handled := none } outer s H E0) [] (start N vs) H s1 := inv_start S rfl ⟨e0.frames, e0.mod, e0.bs, e0.bsz, e0.funs, e0.frf, e0.hok, e0.bare⟩ hl r y
  have I : Inv (cxH P w K mg base N x (defScope st) f cdv A outer s H) [] (start N vs) H s1 :=
    ⟨⟨I0.ok.mod, I0.ok.kind, I0.ok.glob, I0.ok.blt, I0.ok.above, I0.ok.inj, I0.ok.has, I0.ok.cab, (fun z => nomatch z), Around.frames_deeper e0.frames, I0.ok.stk, I0.ok.exf, I0.ok.bs, I0.ok.bsz, I0.ok.noex, I0.ok.exfs, I0.ok.funs, I0.ok.frf⟩, I0.os, I0.bare, I0.base, I0.loc, I0.cell, I0.free, I0.freeC, I0.pin, I0.hok, I0.len⟩
  refine wpAny_mono (ht [] s1 (start N vs) H _ I hq) (fun fl s' hs => ?_) fun e s' hs => hs.elim
  have fin : ∀ {σ' : St} {H' : Hp} {v : V} {u : Value}, Inv (cxH P w K mg base N x (defScope st) f cdv A outer s H) [] σ' H' s' → RelV v u → Q v H' → CE outer P w H s Q u s' :=
    fun {σ' H' v u} J rv q => ⟨v, H', J.os, J.bare, J.base, J.hok, rv, q⟩
  cases fl with
  | ret u =>
    obtain ⟨v, σ', H', J, rv, q⟩ := hs
    exact fin J rv q
  | next =>
    obtain ⟨σ', H', J, q⟩ := hs
    exact fin (v := V.non) (u := Value.none) J rfl q
  | brk => obtain ⟨_, _, _, q⟩ := hs; exact False.elim q
  | cont => obtain ⟨_, _, _, q⟩ := hs; exact False.elim q
end
def tCallH (sp : Sp) (t : TA) : TE := fun σ H Q => t σ H fun vs H1 => sp vs H1 Q E0
theorem pe_defH {X : Cx} {k : Nat} {x : Str} {ps : List Str} {sp : Sp} {p pos : Pos} {e : Expr} {es : List Expr} {t : TA} (D : DefH X.prog X.w X.K X.mg X.base k x ps sp) (hr : RoomH k X.A) (hg : Gl X x) (ha : PA X (e :: es) t)
    (hdb : (x == ("__debug__" : Str)) = false := by decide) (he : starEach (e :: es) X.env = (false, eval e X.env) :: starEach es X.env := by rfl) (hpl : (backTo pos (starEach es X.env)).any (·.1) = false := by rfl) :
    PE X (.Call (.Name x p) (e :: es) [] pos) (tCallH sp t) := by
  obtain ⟨f, fd, len, run, hm, hk, hb⟩ := D.ex
  intro pins s σ H Q I h
  refine wpAny_Call_Name_kw (ld_glob I hg hm ?_ hdb)
  refine PySem.W.callWith_K (h₀ := X.base) I.ok.mod.kin hk (thn (ha pos pins s σ H _ I h) fun us s1 ⟨vs, H1, I1, r, q⟩ => ⟨I1.kIn, ?_⟩) he hpl
  have hl : us.length = ps.length := by rw [← r.length]; exact len _ _ _ _ q
  have hB := hb s1 us I1.kIn (by rw [List.append_nil]; exact hl)
  rw [List.append_nil] at hB
  refine wpAny_call (codeAny_mono (run X.A X.stack s1 H1 ⟨us, []⟩ us vs Q E0 hr I1.env0 hB r q) fun r s' hq => ?_)
  cases r with
  | error e => exact hq.elim
  | ok fl =>
    cases fl with
    | ret u => exact I1.after hq
    | next => exact False.elim hq
    | brk => exact False.elim hq
    | cont => exact False.elim hq
end L2

set_option Elab.async false
set_option linter.all false
set_option maxRecDepth 100000
set_option maxHeartbeats 4000000
namespace L2
open PySem PySem.Spec PyProof.Rows
theorem count_eqU {x : V} : ∀ {xs : List V} {us : List Value}, Vals xs us → xs.all flatV = true → us.countP (eqU x) = xs.countP fun y => eqV y x
  | _, _, .nil, _ => rfl
  | _, _, .cons r t, h => by
    rw [List.all_cons, Bool.and_eq_true] at h
    rw [List.countP_cons, List.countP_cons, count_eqU t h.2, eqU_of r h.1]
section
variable {X : Cx}
/-- xs.count(y) of plain items -/
def rCount : V → List V → Hp → VK → Prop := fun x vs H Q => ∃ l xs y, x = .ref l ∧ vs = [y] ∧ H l = some (.lst xs) ∧ flatV y = true ∧ xs.all flatV = true ∧ Q (.int (xs.countP fun z => eqV z y : Nat)) H
theorem mt_count : MtR X "list.count" rCount := by
  intro pins s σ H x vs v us Q I rx rv h
  obtain ⟨l, xs, y, rfl, rfl, hH, fy, fx, q⟩ := h
  cases rx
  obtain ⟨u, rfl, ru⟩ := rv.one
  obtain ⟨z, its, n, r, hl, e⟩ := I.lstM hH
  refine call_meets F.slot_list_count ⟨_, e, rfl⟩ F.entry_list_count (F.args_list_count_2 _ _) (SeqAt.list_countAt l its.toArray n none #[] u (eqU y)) ⟨e, fun w hw => mem_eqAt ru fy r fx w (by simpa using hw), ?_⟩
  show EP X pins σ Q (Value.int (its.countP (eqU y) : Nat) s.toks) { s with toks := s.toks + 1 }
  rw [count_eqU r fx]
  exact ⟨.int (xs.countP fun z => eqV z y : Nat), H, I.tok _, ⟨_, rfl⟩, q⟩
/-- xs.index(y) of plain items where there is one -/
def rIndex : V → List V → Hp → VK → Prop := fun x vs H Q => ∃ l xs y, x = .ref l ∧ vs = [y] ∧ H l = some (.lst xs) ∧ flatV y = true ∧ xs.all flatV = true ∧ xs.findIdx (fun z => eqV z y) < xs.length ∧ Q (.int (xs.findIdx fun z => eqV z y : Nat)) H
theorem mt_index : MtR X "list.index" rIndex := by
  intro pins s σ H x vs v us Q I rx rv h
  obtain ⟨l, xs, y, rfl, rfl, hH, fy, fx, hj, q⟩ := h
  cases rx
  obtain ⟨u, rfl, ru⟩ := rv.one
  obtain ⟨z, its, n, r, hl, e⟩ := I.lstM hH
  have hlen := r.length
  have at_ : ∀ (m : Nat) (hm : m < its.toArray.size) (hx : m < xs.length), eqU y its.toArray[m] = eqV xs[m] y := fun m hm hx => by
    obtain ⟨w, hw, rw'⟩ := r.get (List.getElem?_eq_getElem hx)
    have : its.toArray[m] = w := by
      have := List.getElem?_eq_some_iff.mp hw
      obtain ⟨_, e⟩ := this
      simpa using e
    rw [this]
    exact eqU_of rw' (List.all_eq_true.mp fx _ (List.getElem_mem hx))
  have hs : its.toArray.size = xs.length := by rw [List.size_toArray]; exact hlen.symm
  refine call_meets F.slot_list_index ⟨_, e, rfl⟩ F.entry_list_index (F.args_list_index_2 _ _) (SeqAt.list_indexAt l its.toArray n none #[] u (eqU y) (xs.findIdx fun z => eqV z y) (by omega) (by have : sizeLine < 2 ^ 62 := (by decide); omega) ?_ ?_)
    ⟨e, fun w hw => mem_eqAt ru fy r fx w (by simpa using hw), ⟨V.int (xs.findIdx fun z => eqV z y : Nat), H, I.tok _, ⟨_, rfl⟩, q⟩⟩
  · rw [at_ _ (by omega) hj]
    exact List.findIdx_getElem (p := fun z => eqV z y)
  · intro m hm hlt
    rw [at_ m hm (by omega)]
    exact List.not_of_lt_findIdx (p := fun z => eqV z y) hlt
end
end L2

set_option Elab.async false
set_option linter.all false
set_option maxRecDepth 100000
set_option maxHeartbeats 4000000
namespace L2
open PySem PySem.Spec PyProof.Rows
/-! ### the program's refusals: one class over all, the others straight under it -/
def xclsB (K : PySem.W.Frag) (C : Addr) : Bool :=
  PySem.W.findIn K (.ref C) "__class__" == some (some (.builtin "object.__class__")) && PySem.W.findIn K (.ref C) "__getattribute__" == some (some (.builtin "BaseException.__getattribute__")) &&
  PySem.W.findIn K (.ref C) "__getattr__" == some none && PySem.W.mroIn K C (.type "object") == some true && PySem.W.mroIn K C (.type "BaseException") == some true
theorem xcls_of {K : PySem.W.Frag} {C : Addr} (h : xclsB K C = true) : XCls K C := by
  unfold xclsB at h
  simp only [Bool.and_eq_true, beq_iff_eq] at h
  exact ⟨h.1.1.1.1, h.1.1.1.2, h.1.1.2, h.1.2, h.2⟩
def oneK (K : PySem.W.Frag) (M : Addr) (Cs : List Addr) (i : Nat) : Bool :=
  let C := Cs.getD i 0
  excK K C (.ref M :: bmV) && xclsB K C && PySem.W.kitOne K (.ref C) (.type "ValueError") == some true && (List.range 6).all fun j => PySem.W.kitOne K (.ref C) (.ref (Cs.getD j 0)) == some (i == j)
def errsK (K : PySem.W.Frag) (M : Addr) (Cs : List Addr) : Bool := excK K M bmV && (List.range 6).all (oneK K M Cs)
structure Errs (K : PySem.W.Frag) (mg : Str → Option Value) (M C0 C1 C2 C3 C4 C5 : Addr) : Prop where
  m : mg "MoorError" = some (.ref M)
  g0 : mg "NoQuay" = some (.ref C0)
  g1 : mg "NoRow" = some (.ref C1)
  g2 : mg "NoOutcome" = some (.ref C2)
  g3 : mg "NoTree" = some (.ref C3)
  g4 : mg "NoRank" = some (.ref C4)
  g5 : mg "NoNote" = some (.ref C5)
  ok : errsK K M [C0, C1, C2, C3, C4, C5] = true
section
variable {K : PySem.W.Frag} {mg : Str → Option Value} {M C0 C1 C2 C3 C4 C5 : Addr}
theorem Errs.mX (R : Errs K mg M C0 C1 C2 C3 C4 C5) : excK K M bmV = true := by
  have := R.ok; unfold errsK at this; exact (Bool.and_eq_true_iff.mp this).1
theorem Errs.one (R : Errs K mg M C0 C1 C2 C3 C4 C5) (i : Nat) (hi : i < 6) : oneK K M [C0, C1, C2, C3, C4, C5] i = true := by
  have := R.ok; unfold errsK at this
  exact List.all_eq_true.mp (Bool.and_eq_true_iff.mp this).2 i (List.mem_range.mpr hi)
theorem Errs.e (R : Errs K mg M C0 C1 C2 C3 C4 C5) (i : Nat) (hi : i < 6) : excK K ([C0, C1, C2, C3, C4, C5].getD i 0) (.ref M :: bmV) = true := by
  have := R.one i hi; unfold oneK at this
  simp only [Bool.and_eq_true] at this
  exact this.1.1.1
theorem Errs.x (R : Errs K mg M C0 C1 C2 C3 C4 C5) (i : Nat) (hi : i < 6) : XCls K ([C0, C1, C2, C3, C4, C5].getD i 0) := by
  have := R.one i hi; unfold oneK at this
  simp only [Bool.and_eq_true] at this
  exact xcls_of this.1.1.2
theorem Errs.v (R : Errs K mg M C0 C1 C2 C3 C4 C5) (i : Nat) (hi : i < 6) : PySem.W.kitOne K (.ref ([C0, C1, C2, C3, C4, C5].getD i 0)) (.type "ValueError") = some true := by
  have := R.one i hi; unfold oneK at this
  simp only [Bool.and_eq_true] at this
  exact beq_iff_eq.mp this.1.2
theorem Errs.k (R : Errs K mg M C0 C1 C2 C3 C4 C5) (i j : Nat) (hi : i < 6) (hj : j < 6) : PySem.W.kitOne K (.ref ([C0, C1, C2, C3, C4, C5].getD i 0)) (.ref ([C0, C1, C2, C3, C4, C5].getD j 0)) = some (i == j) := by
  have := R.one i hi; unfold oneK at this
  simp only [Bool.and_eq_true] at this
  exact beq_iff_eq.mp (List.all_eq_true.mp this.2 j (List.mem_range.mpr hj))
end
end L2

set_option Elab.async false
set_option linter.all false
set_option maxRecDepth 100000
set_option maxHeartbeats 4000000
namespace L2
open PySem PySem.Spec PyProof.Rows
theorem lri_len : typeLookup (.type "list_reverseiterator") "__len__" = pure none := by rw [typeLookup_type, builtinLookup_eq_fast]; kernel_rfl
theorem lri_hint : typeLookup (.type "list_reverseiterator") "__length_hint__" = pure (some (.builtin "list_reverseiterator.__length_hint__")) := by rw [typeLookup_type, builtinLookup_eq_fast]; kernel_rfl
theorem rev_hint {prog : Program} {w : World} {A : Around} {E : Value → Shared → Prop} {s : Shared} {r l : Addr} {i : Int} {Q : Bool → Shared → Prop} (hr : s.heap.IsRevIter r l i) (h : Q false s) : wpAny (model prog w) A (Builtin.List.listLengthHint (.ref r)) Q E s := by
  unfold Builtin.List.listLengthHint
  refine wpAny_bind (wpAny_specialOf hr.typeIs lri_len ?_)
  show wpAny _ A (specialOf (Value.ref r) (Str.ofString "__length_hint__") >>= _) _ _ _
  refine wpAny_bind (wpAny_specialOf hr.typeIs lri_hint ?_)
  generalize hid : ("list_reverseiterator.__length_hint__" : String) = id0
  wp_delta
  rw [show splitId id0 = some ("list_reverseiterator", "__length_hint__") from by subst hid; decide +kernel]
  subst hid
  refine wpAny_bind (wpAny_isInstance (T := "list_reverseiterator") (b := true) hr.typeIs (by rw [isSubtype_type]; kernel_rfl) ?_)
  refine wpAny_ite_split (fun hab => absurd hab (by decide)) (fun _ => ?_)
  refine wpAny_ite_split (fun _ => ?_) (fun hab => absurd (by decide +kernel) hab)
  exact wpAny_ite_split (fun hab => absurd hab (by decide +kernel)) (fun _ => wpAny_pure h)
section
variable {prog : Program} {w : World} {A : Around} {E : Value → Shared → Prop} {s : Shared} {R : Result → Shared → Prop}
theorem rev_extend {I l S : Addr} {items : Array Value} {c₀ : Nat} {res : Value} (hh : A.handled = none) (hit : s.heap.IsRevIter I l ((items.size : Int) - 1)) (hl : s.heap.IsList l items) (hne : l ≠ I) (hn : items.size ≤ sizeLine) (hSI : S ≠ I) (hSl : S ≠ l)
    (hS : s.heap.get? S = some { cls := .type "list", data := .seq #[] c₀ })
    (hR : ∀ s' acc' c', Moved (S :: [I]) (fun a b => b = a) s s' → s'.heap.get? S = some { cls := .type "list", dict := none, data := .seq acc' c', slots := #[] } → ItemsOf (fun i v => items[items.size - 1 - i]? = some v) acc' items.size → R (.ok (.ret res)) s') :
    wpAny (model prog w) A.in1 (Builtin.List.listExtendWith (.ref S) (.ref I) res)
      (fun fin s' => match fin with | .done f => R (.ok f) s' | .again c' => c'.quiet = true ∧ codeAny (model prog w) A c' R s') (fun e s' => R (.error e) s') s := by
  have W := (Walks.listRev (prog := prog) (w := w) (A := A.in1) hh I l hne items).toS
  have e0 : (items.size : Int) - 1 = (items.size : Int) - 1 - ((0 : Nat) : Int) := by omega
  have hst : 0 ≤ items.size ∧ s.heap.IsRevIter I l ((items.size : Int) - 1 - ((0 : Nat) : Int)) ∧ s.heap.IsList l items := ⟨Nat.zero_le _, e0 ▸ hit, hl⟩
  have hSf : S ∉ [I, l] := fun z => by simp at z; rcases z with z | z; exact hSI z; exact hSl z
  unfold Builtin.List.listExtendWith
  refine wpAny_bind (wpAny_typeOf hit.typeIs ?_)
  have q1 : Builtin.List.listSameRef (.ref S) (.ref I) = false := by simp [Builtin.List.listSameRef, hSI]
  have q2 : (Value.type "list_reverseiterator" == Value.type "list") = false := by decide +kernel
  have q3 : (Value.type "list_reverseiterator" == Value.type "tuple") = false := by decide +kernel
  simp only [q1, q2, q3, Bool.or_false, Bool.false_eq_true, if_false]
  refine wpAny_bind (wpAny_pyIter_revIter hit ?_)
  refine wpAny_bind (wpAny_holding (rev_hint hit ?_))
  refine wpAny_ite_split (fun hab => absurd hab (by decide +kernel)) (fun _ => ?_)
  refine wpAny_pure ⟨plainId_quiet F.plain_extend_loop _, ?_⟩
  exact codeAny_extend_loopS W hn S hSf res items.size 0 _ #[] c₀ rfl (Nat.zero_le _) hst hS (ItemsOf.nil _) fun s' acc' c' hm hS' hacc => hR s' acc' c' hm hS' hacc
theorem call_list_rev {Q : Value → Shared → Prop} {I l : Addr} {items : Array Value} (hh : A.handled = none) (hit : s.heap.IsRevIter I l ((items.size : Int) - 1)) (hl : s.heap.IsList l items) (hn : items.size ≤ sizeLine)
    (hQ : ∀ s' acc' c', Moved [s.heap.objs.size, I] (fun a b => b = a) { s with heap := s.heap.push { cls := .type "list", data := .seq #[] } } s' → s'.heap.get? s.heap.objs.size = some { cls := .type "list", dict := none, data := .seq acc' c', slots := #[] } →
      ItemsOf (fun i v => items[items.size - 1 - i]? = some v) acc' items.size → Q (.ref s.heap.objs.size) s') : wpAny (model prog w) A (call (.type "list") [.ref I]) Q E s := by
  obtain ⟨oi, hoi, hic, hid⟩ := id hit
  obtain ⟨ol, hol, hlc, nl, hld⟩ := id hl
  have hne : l ≠ I := fun z => by rw [z, hoi] at hol; cases hol; rw [hid] at hld; cases hld
  have hI := Heap.lt_size hoi
  have hlt := Heap.lt_size hol
  refine callType_codes (Q₁ := fun obj s₁ => obj = .ref s.heap.objs.size ∧ s₁ = { s with heap := s.heap.push { cls := .type "list", data := .seq #[] } }) F.called_list (F.typeCall_list_1 _) F.entry_list_init
    (code_list_new _ ⟨rfl, rfl⟩) fun obj s₁ h₁ => ?_
  obtain ⟨rfl, rfl⟩ := h₁
  have hS : (s.heap.push { cls := .type "list", data := .seq #[] }).get? s.heap.objs.size = some { cls := .type "list", data := .seq #[] } := Heap.get?_push_size _ rfl
  refine ⟨⟨_, hS, rfl⟩, F.args_list_init_2 _ _, ?_⟩
  have up : ∀ b o, s.heap.get? b = some o → ((s.heap.push { cls := .type "list", data := .seq #[] }).update s.heap.objs.size (Obj.mapSeq (fun _ => (#[] : Array Value)))).get? b = some o :=
    fun b o e => (Heap.get?_update_other _ _ (Nat.ne_of_gt (Heap.lt_size e))).trans (Heap.get?_push_of_some _ e)
  show wpAny _ _ (do let old ← Builtin.List.listItems (.ref s.heap.objs.size); Builtin.List.listUpdate (.ref s.heap.objs.size) (fun _ => #[]); letGo old.toList.reverse; Builtin.List.listExtendWith (.ref s.heap.objs.size) (.ref I) .none) _ _ _
  refine wpAny_bind ?_
  unfold Builtin.List.listItems
  refine wpAny_bind (wpAny_seqItems hS rfl (wpAny_pure ?_))
  show wpAny _ _ (updateSeq s.heap.objs.size (fun _ => #[]) >>= fun _ => letGo (#[] : Array Value).toList.reverse >>= fun _ => Builtin.List.listExtendWith (.ref s.heap.objs.size) (.ref I) .none) _ _ _
  refine wpAny_bind (wpAny_updateSeq hS rfl ?_)
  have hS₂ := Heap.get?_update_self (Obj.mapSeq (fun _ => (#[] : Array Value))) hS rfl
  refine wpAny_bind (wpAny_letGo ?_)
  refine rev_extend (A := A.in1) (I := I) (l := l) (items := items) hh (hit.at fun o e => up I o e) (hl.at fun o e => up l o e) hne hn (Nat.ne_of_gt hI) (Nat.ne_of_gt hlt) hS₂ fun s' acc' c' hm hS' hacc => ⟨rfl, hQ s' acc' c' ?_ hS' hacc⟩
  have m1 : Moved [s.heap.objs.size, I] (fun a b => b = a) { s with heap := s.heap.push { cls := .type "list", data := .seq #[] } } { s with heap := (s.heap.push { cls := .type "list", data := .seq #[] }).update s.heap.objs.size (Obj.mapSeq (fun _ => (#[] : Array Value))) } :=
    ⟨fun b o hb e => (Heap.get?_update_other _ _ (fun z => hb (by rw [← z]; exact List.mem_cons_self))).trans e, rfl, rfl, rfl, Nat.le_refl _⟩
  exact Moved.trans (fun _ _ _ a b => b.trans a) m1 hm
end
theorem rev_vals : ∀ {vs : List V} {us : List Value}, Vals vs us → Vals vs.reverse us.reverse
  | _, _, .nil => .nil
  | _, _, .cons r t => by
    rw [List.reverse_cons, List.reverse_cons]
    exact (rev_vals t).append (.cons r .nil)
theorem items_rev {its : List Value} {acc : Array Value} (h : ItemsOf (fun i v => its.toArray[its.toArray.size - 1 - i]? = some v) acc its.toArray.size) : acc.toList = its.reverse := by
  obtain ⟨h1, h2⟩ := h
  have h1 : acc.size = its.length := by rw [h1, List.size_toArray]
  apply List.ext_getElem?
  intro i
  by_cases c : i < its.length
  · have hi : i < acc.size := by omega
    have q : its.toArray[its.toArray.size - 1 - i]? = some acc[i] := h2 i acc[i] (Array.getElem?_eq_getElem hi)
    rw [List.getElem?_toArray, List.size_toArray] at q
    rw [List.getElem?_reverse c, q, Array.getElem?_toList, Array.getElem?_eq_getElem hi]
  · rw [List.getElem?_eq_none (l := its.reverse) (by rw [List.length_reverse]; omega), List.getElem?_eq_none (l := acc.toList) (by rw [Array.length_toList]; omega)]
/-- list(reversed(e)) -/
def tLR (te : TE) : TE := fun σ H Q => te σ H fun x H1 => ∃ l vs, x = .ref l ∧ H1 l = some (.lst vs) ∧ ∀ p, H1 p = none → Q (.ref p) (upd H1 p (.lst vs.reverse))
theorem pe_list_rev {X : Cx} {e : Expr} {te : TE} {p1 p2 pos1 pos2 : Pos} (hc : X.calm = true) (hg : Gl X "list") (hm : X.mg "list" = none) (hg2 : Gl X "reversed") (hm2 : X.mg "reversed" = none) (he : PE X e te)
    (hv : bootBuiltins "list" = some (.type "list") := by decide +kernel) (hv2 : bootBuiltins "reversed" = some (.type "reversed") := by decide +kernel)
    (s1 : starEach [.Call (.Name "reversed" p2) [e] [] pos2] X.env = (false, eval (.Call (.Name "reversed" p2) [e] [] pos2) X.env) :: starEach [] X.env := by rfl) (s2 : starEach [e] X.env = (false, eval e X.env) :: starEach [] X.env := by rfl) :
    PE X (.Call (.Name "list" p1) [.Call (.Name "reversed" p2) [e] [] pos2] [] pos1) (tLR te) := by
  intro pins s σ H Q I h
  refine wpAny_Call_Name_kw (ld_blt I hg hm hv ?_ (by decide) (by decide))
  refine PyProof.Rows.callWith_type1 ?_ s1 rfl
  rw [s1]
  refine Calls.spliced_cons ?_
  refine wpAny_Call_Name_kw (ld_blt I hg2 hm2 hv2 ?_ (by decide) (by decide))
  refine PyProof.Rows.callWith_type1 ?_ s2 rfl
  rw [s2]
  refine Calls.spliced_cons (thn (he pins s σ H _ I h) fun u t1 ⟨x, H1, I1, r1, l, vs, ex, hl, q⟩ => ?_)
  subst ex
  have r1 : u = Value.ref l := r1
  subst r1
  refine Calls.spliced_nil ?_
  obtain ⟨z, its, n, rv, el⟩ := (show ObjOk X.prog X.w H1 t1.heap l (.lst vs) from I1.hok l _ hl)
  have hL : t1.heap.IsList l its.toArray := ⟨_, el, rfl, n, rfl⟩
  refine call_reversed_list hL ?_
  refine Calls.spliced_nil ?_
  have up : ∀ b o, t1.heap.get? b = some o → (t1.heap.push (revObj l ((its.toArray.size : Int) - 1))).get? b = some o := fun b o e => Heap.get?_push_of_some _ e
  have hL2 : (t1.heap.push (revObj l ((its.toArray.size : Int) - 1))).IsList l its.toArray := hL.at fun o e => up l o e
  have new : Heap.IsRevIter (t1.heap.push (revObj l ((its.toArray.size : Int) - 1))) t1.heap.objs.size l ((its.toArray.size : Int) - 1) := ⟨_, Heap.get?_push_size _ rfl, rfl, rfl⟩
  refine call_list_rev (I.ok.hd hc) new hL2 (by rw [List.size_toArray, ← rv.length]; exact z) fun s' acc' c' hm hS' hacc => ?_
  have hsz : (t1.heap.push (revObj l ((its.toArray.size : Int) - 1))).objs.size = t1.heap.objs.size + 1 := Heap.size_push _ _
  have keep : ∀ b o, t1.heap.get? b = some o → s'.heap.get? b = some o := fun b o e =>
    hm.heap b o (fun w => by
      have hb := Heap.lt_size e
      rcases List.mem_cons.mp w with w | w
      · have w : b = t1.heap.objs.size + 1 := w.trans hsz
        rw [w] at hb; exact absurd hb (by simp)
      · have w : b = t1.heap.objs.size := List.mem_singleton.mp w
        rw [w] at hb; exact absurd hb (Nat.lt_irrefl _)) (Heap.get?_push_of_some _ (up b o e))
  have es : s' = { t1 with heap := s'.heap, toks := s'.toks } := (Moved.eq_with hm).trans rfl
  rw [es]
  refine ⟨.ref (t1.heap.push (revObj l ((its.toArray.size : Int) - 1))).objs.size, _, I1.laid (a := (t1.heap.push (revObj l ((its.toArray.size : Int) - 1))).objs.size) (o := .lst vs.reverse) (t' := s'.toks) keep (by rw [hsz]; omega) ⟨by rw [List.length_reverse]; exact z, its.reverse, c', rev_vals rv, ?_⟩, rfl, q _ (I1.hok.fresh (by rw [hsz]; omega))⟩
  rw [← items_rev hacc, Array.toArray_toList]
  exact hS'
end L2

set_option Elab.async false
set_option linter.all false
set_option maxRecDepth 100000
set_option maxHeartbeats 4000000
namespace L2
open PySem PySem.Spec PyProof.Rows
/-- t != u of tuples of plain items, equally long -/
def rNeT (K : PySem.W.Frag) : R2 := fun x y H Q => ∃ a b xs ys, x = .ref a ∧ y = .ref b ∧ SqT K H a xs ∧ SqT K H b ys ∧ xs.length = ys.length ∧ xs.all plV = true ∧ ys.all plV = true ∧ Q (.bl (!decide (xs = ys))) H
theorem op_neT {X : Cx} (hu : X.A.units + 1 < cLine) : OpR X (compareOp .NotEq) (rNeT X.K) := by
  intro pins s σ H x y v u Q I rx ry h
  obtain ⟨a, b, xs, ys, rfl, rfl, ha, hb, hl, px, py, q⟩ := h
  cases rx
  cases ry
  obtain ⟨its, r, pl, hz⟩ := I.tuple ha
  obtain ⟨its2, r2, pl2, hz2⟩ := I.tuple hb
  have l1 := r.length
  have l2 := r2.length
  refine SeqAt.RcNeAt.tuples (e := eqN xs ys) pl pl2 (by omega) (vals_eqAt r r2 px py) _ _ _ _ ⟨.bl _, H, I, rfl, ?_⟩
  have e1 : min its.toArray.size its2.toArray.size = xs.length := by simp; omega
  have e2 : (its.toArray.size == its2.toArray.size) = true := by simp; omega
  rw [e1, e2, Bool.and_true, eqN_all hl px py]
  exact q
end L2

set_option Elab.async false
set_option linter.all false
set_option maxRecDepth 100000
set_option maxHeartbeats 4000000
namespace L2
open PySem PySem.Spec PyProof.Rows
/-! ### enumerate -/
section
variable {X : Cx} {pins : List (Addr × Obj)} {σ : St} {H : Hp} {s : Shared} {h' : Heap}
/-- several records of an iterator turn -/
theorem Inv.turnedL {t' : Nat} {fp : List Addr} (I : Inv X pins σ H s) (k : ∀ b o, b ∉ fp → s.heap.get? b = some o → h'.get? b = some o) (hf : ∀ b ∈ fp, FpOk X pins H b) : Inv X pins σ H { s with heap := h', toks := t' } := by
  have nfp : ∀ b u, H b = some u → b ∉ fp := fun b u e z => by rw [(hf b z).1] at e; cases e
  refine I.step (g' := s.gens) (d' := s.drawn) (ch := fp) (fun b hb => ⟨(hf b hb).2.2.2.1, (hf b hb).2.1, (hf b hb).2.2.2.2.1, (hf b hb).2.2.2.2.2⟩) (fun b o _ _ hc e _ => k b o hc e) (fun b o _ _ hc e _ => ⟨o.slots, k b o hc e⟩)
    (fun _ _ _ _ n => n) (fun b o hc e => ⟨o, k b o hc e⟩) (fun _ _ e => e) (fun _ _ _ e => e) (fun b ps e => ⟨#[], by rw [e]; simp⟩) (fun m hm => ?_) (fun b u e => ?_) I.bare
  · obtain ⟨o, es, ep, ho, r⟩ := hm
    exact ⟨o, es, ep, k _ o (fun z => (hf _ z).2.1 rfl) ho, r⟩
  · refine (I.hok b u e).stay (fun c v hc q => k c v (hc.elim (fun z => ?_) fun z => nfp c _ z) q) (fun _ q => q) fun _ _ q => q
    rw [z]; exact nfp b u e
end
/-- the draws of a list, numbered from k on -/
theorem enumD {prog : Program} {w : World} {A : Around} (hh : A.handled = none) (it l : Addr) (hne : l ≠ it) (items : Array Value) (k : Nat) :
    Draws prog w A it [it, l] (k + items.size) (fun j v => items[j - k]? = some v) (fun j h => k ≤ j ∧ h.IsListIter it l (j - k) ∧ h.IsList l items) where
  live := fun j h st => (Draws.list (prog := prog) (w := w) hh it l hne items).live (j - k) h st.2
  frame := fun j h h' st kk => ⟨st.1, (Draws.list (prog := prog) (w := w) hh it l hne items).frame (j - k) h h' st.2 kk⟩
  item := fun j s Q E hj st hQ => (Draws.list (prog := prog) (w := w) hh it l hne items).item (j - k) s Q E (by have := st.1; omega) st.2 fun x h' tk hP st' sb =>
    hQ x h' tk hP ⟨by have := st.1; omega, by rw [show j + 1 - k = j - k + 1 by have := st.1; omega]; exact st'⟩ sb
  done := fun s Q E st hE => (Draws.list (prog := prog) (w := w) hh it l hne items).done s Q E (by have q := st.2; rwa [Nat.add_sub_cancel_left] at q) hE
/-- the list at a, each item with its number from k on, in a tuple of its own -/
def Ite (K : PySem.W.Frag) (a : Addr) (k : Nat) : It :=
  ⟨fun i H => ∃ xs x, SqL K H a xs ∧ xs[i]? = some x, fun i H x H' => ∃ t y, H t = none ∧ x = .ref t ∧ H' = upd H t (.tup [.int ((k + i : Nat) : Int), y]) ∧ ∀ xs, SqL K H a xs → xs[i]? = some y, fun i H => ∃ xs, SqL K H a xs ∧ xs.length = i⟩
theorem turn_enum {P : Program} {w : World} {K : PySem.W.Frag} {elts : List Expr} {x1} {tp : Pos} (a e it : Addr) (k : Nat) (hei : e ≠ it) (hai : a ≠ it) (hae : a ≠ e) :
    Turn P w K (.Tuple elts x1 tp) (Ite K a k) [e, it] e (fun i h => (∃ old, IsEnum h e it ((k + i : Nat) : Int) old) ∧ h.IsListIter it a i) where
  mem := by simp
  obj := fun i h st b hb => by
    obtain ⟨⟨old, he⟩, o, eo, c, d⟩ := st
    rcases List.mem_cons.mp hb with rfl | hb
    · exact ⟨_, he, fun v z => by
        have z' : Data.fields _ = Data.cell v := z
        cases z'⟩
    · have e : b = it := by simpa using hb
      subst e
      exact ⟨o, eo, fun v z => by rw [d] at z; cases z⟩
  keep := fun i h h' st kk => ⟨let ⟨old, he⟩ := st.1; ⟨old, kk e (by simp) _ he⟩, st.2.at fun o q => kk it (by simp) o q⟩
  item := by
    intro X hP hw hK hc i pins s σ H E I hf st hg
    subst hP hw hK
    obtain ⟨xs, x, hq, hx⟩ := hg
    obtain ⟨its, rv, p, hz⟩ := I.list hq
    obtain ⟨u, hu, ru⟩ := rv.get hx
    obtain ⟨⟨old, he⟩, hit⟩ := st
    have hlen := rv.length
    have hil : i < its.length := by have := (List.getElem?_eq_some_iff.mp hu).1; exact this
    have D := enumD (prog := X.prog) (w := X.w) (A := X.A.in1) (I.ok.hd hc) it a hai its.toArray k
    refine wpAny_pyNext_enum_itemD (i := k + i) D he ⟨by omega, by rw [Nat.add_sub_cancel_left]; exact hit, p.isList⟩ (by rw [List.size_toArray]; omega) hei (by simp; exact ⟨hei, Ne.symm hae⟩) fun x' h' tk hx' ho hs' hT hsz hk => ?_
    have ex : x' = u := by
      rw [Nat.add_sub_cancel_left, List.getElem?_toArray, hu] at hx'
      exact (Option.some.inj hx').symm
    subst ex
    refine ⟨_, rfl, wpAny_letOwnedTupleGo_enum ho fun h2 he2 hs2 => ?_⟩
    have keep : ∀ b o, b ∉ [e, it] → s.heap.get? b = some o → h2.get? b = some o := fun b o hb q => by
      have hbe : b ≠ e := fun z => hb (by simp [z])
      have hbi : b ≠ it := fun z => hb (by simp [z])
      exact (hs2.2 b hbe).trans (hk b o hbe hbi q)
    have I1 : Inv X pins σ H { s with heap := h2, toks := tk + 1 } := I.turnedL keep hf
    have hlt : e < s.heap.objs.size := Heap.lt_size he
    have hT2 : h2.get? s.heap.objs.size = some { cls := .type "tuple", data := .seq #[.int ((k + i : Nat) : Int) tk, x'] } := (hs2.2 _ (Nat.ne_of_gt hlt)).trans hT
    obtain ⟨g0, g1, g2, g3, g4, g5⟩ := I.fpOk (b := s.heap.objs.size) (Nat.le_refl _) (I.hok.fresh (Nat.le_refl _))
    have I2 := I1.track (a := s.heap.objs.size) (o := .tup [.int ((k + i : Nat) : Int), x]) g0 (Heap.get?_none_of_le I.sz) g1 g4 g5 ⟨by show 2 ≤ sizeLine; decide, [.int ((k + i : Nat) : Int) tk, x'], .cons ⟨_, rfl⟩ (.cons ru .nil), ⟨_, hT2, rfl, _, rfl⟩⟩
    refine ⟨.ref s.heap.objs.size, _, I2, rfl, ⟨_, x, g0, rfl, rfl, fun ys hy => by rw [I.list_inj hy hq]; exact hx⟩, ⟨⟨x', ?_⟩, ?_⟩, fun b hb => ?_⟩
    · have := he2
      rw [show ((k + (i + 1) : Nat) : Int) = ((k + i : Nat) : Int) + 1 by omega]
      exact this
    · have q := hs'.2.1
      rw [show k + i + 1 - k = i + 1 by omega] at q
      exact q.at fun o z => (hs2.2 it (Ne.symm hei)).trans z
    · rw [upd_ne]
      · exact (hf b hb).1
      · rintro rfl
        rcases List.mem_cons.mp hb with z | z
        · rw [z] at hlt; exact Nat.lt_irrefl _ hlt
        · have z : s.heap.objs.size = it := by simpa using z
          obtain ⟨o, eo, _⟩ := hit
          have h3 := Heap.lt_size eo
          rw [z] at h3; exact Nat.lt_irrefl _ h3
  done := by
    intro X hP hw hK hc i pins s σ H E I hf st hg
    subst hP hw hK
    obtain ⟨xs, hq, hx⟩ := hg
    obtain ⟨its, rv, p, hz⟩ := I.list hq
    obtain ⟨⟨old, he⟩, hit⟩ := st
    have hlen := rv.length
    have D := enumD (prog := X.prog) (w := X.w) (A := X.A.in1) (I.ok.hd hc) it a hai its.toArray k
    refine wpAny_pyNext_enum_endD D he ⟨by omega, ?_, p.isList⟩ fun h' eb => ⟨rfl, I.turnedL (t' := s.toks) (fun b o hb q => eb b o (fun z => hb (by simp [z])) q) hf⟩
    rw [Nat.add_sub_cancel_left, List.size_toArray, ← hlen, hx]; exact hit
  self := fun _ _ _ _ _ st h => by
    obtain ⟨⟨old, he⟩, _⟩ := st
    exact wpAny_pyIter_enum he h
/-- for i, x in enumerate(e): from k on -/
def iEnum (K : PySem.W.Frag) (k : Nat) (tl : TE) : TI := fun σ H R => tl σ H fun x H1 => ∃ a, x = .ref a ∧ (∃ xs, SqL K H1 a xs) ∧ R (Ite K a k) H1
section
variable {X : Cx}
theorem enum_pie {pins : List (Addr × Obj)} {σ : St} {H1 : Hp} {s1 : Shared} {h' : Heap} {a : Addr} {xs : List V} {k : Nat} {R : It → Hp → Prop} {E : Value → Shared → Prop} {elts : List Expr} {x1} {tp : Pos} {tk : Nat} (I1 : Inv X pins σ H1 s1) (hq : SqL X.K H1 a xs) (q : R (Ite X.K a k) H1)
    (he : IsEnum h' (s1.heap.objs.size + 1) s1.heap.objs.size (k : Int) .none) (hi : h'.IsListIter s1.heap.objs.size a 0) (hk : ∀ b o, s1.heap.get? b = some o → h'.get? b = some o) :
    wpAny (model X.prog X.w) X.A (pyIter (.ref (s1.heap.objs.size + 1))) (PIE X pins σ (.Tuple elts x1 tp) R) E { s1 with heap := h', toks := tk } := by
  obtain ⟨its, rv, p, hz⟩ := I1.list hq
  have hal : a < s1.heap.objs.size := by obtain ⟨_, z, _⟩ := p.isList; exact Heap.lt_size z
  refine wpAny_pyIter_enum (s := { s1 with heap := h', toks := tk }) he ?_
  refine ⟨s1.heap.objs.size + 1, [s1.heap.objs.size + 1, s1.heap.objs.size], _, _, H1, rfl, I1.kept (t' := tk) hk, turn_enum a (s1.heap.objs.size + 1) s1.heap.objs.size k (Nat.succ_ne_self _) (Nat.ne_of_lt hal) (Nat.ne_of_lt (Nat.lt_succ_of_lt hal)), ⟨⟨.none, he⟩, hi⟩, fun b hb => ?_, q⟩
  have hb' : s1.heap.objs.size ≤ b := by
    rcases List.mem_cons.mp hb with z | z
    · rw [z]; exact Nat.le_succ _
    · have z : b = s1.heap.objs.size := by simpa using z
      rw [z]; exact Nat.le_refl _
  exact I1.fpOk hb' (I1.hok.fresh hb')
theorem pi_enum {l : Expr} {tl : TE} {p pos : Pos} {elts : List Expr} {x1} {tp : Pos} (hg : Gl X "enumerate") (hm : X.mg "enumerate" = none) (hl : PE X l tl) (hs : starEach [l] X.env = (false, eval l X.env) :: starEach [] X.env := by rfl) :
    PI X (.Tuple elts x1 tp) (.Call (.Name "enumerate" p) [l] [] pos) (iEnum X.K 0 tl) := by
  intro pins s σ H R I h
  refine Call_ (ld_blt I hg hm (show bootBuiltins "enumerate" = some (.type "enumerate") by decide +kernel) ?_)
  refine PyProof.Rows.callWith_type1 ?_ hs rfl
  rw [hs]
  refine Calls.spliced_cons (thn (hl pins s σ H _ I h) fun u s1 ⟨x, H1, I1, r1, a, ex, ⟨xs, hq⟩, q⟩ => ?_)
  subst ex
  have r1 : u = Value.ref a := r1
  subst r1
  refine Calls.spliced_nil ?_
  obtain ⟨its, rv, pl, hz⟩ := I1.list hq
  exact call_enumerate_list pl.isList fun h' he hi _ hk => enum_pie (k := 0) (tk := s1.toks) I1 hq q he hi hk
end
end L2

set_option Elab.async false
set_option linter.all false
set_option maxRecDepth 100000
set_option maxHeartbeats 4000000
namespace L2
open PySem PySem.Spec PyProof.Rows
section
variable {X : Cx}
/-- sum(a list of whole numbers) -/
def rSumI (K : PySem.W.Frag) : List V → Hp → VK → Prop := fun xs H Q => ∃ (p : Addr) (ns : List Int), xs = [.ref p] ∧ SqL K H p (ns.map V.int) ∧ Q (.int ns.sum) H
theorem call_sumI (hc : X.calm = true) : CallR X (.builtin "sum") (rSumI X.K) := by
  intro pins s σ H xs us Q I r h
  obtain ⟨p, ns, rfl, hq, q⟩ := h
  obtain ⟨u, rfl, ru⟩ := vals1 r
  cases ru
  obtain ⟨its, rv, pl, hz⟩ := I.list hq
  have hi := intsAre_of rv
  obtain ⟨ys, hy⟩ := hi.allInts.items
  have hl : s.heap.IsList p (intItems ys) := by rw [← hy]; exact pl.isList
  refine sum_intListG (I.ok.hd hc) hl fun h' tk t' hk => ⟨.int ns.sum, H, I.kept (t' := tk) hk, ⟨t', ?_⟩, q⟩
  have e1 : numsOf (intItems ys).toList = ns := by rw [← hy]; exact hi.numsOf
  rw [nums_intItems] at e1
  rw [preSum_eq, List.take_of_length_le (by simp), e1]
/-- list(range(e)) -/
def tLRg (te : TE) : TE := fun σ H Q => te σ H fun x H1 => ∃ n : Nat, x = .int (n : Int) ∧ n ≤ 1000 ∧ ∀ p, H1 p = none → Q (.ref p) (upd H1 p (.lst ((irng 0 n).map V.int)))
theorem rng_vals : ∀ {ns : List Int} {us : List Value}, us.length = ns.length → (∀ (j : Nat) (v : Value), us[j]? = some v → ∃ t, v = .int (ns.getD j 0) t) → Vals (ns.map V.int) us
  | [], [], _, _ => .nil
  | n :: ns, u :: us, hl, h => by
    obtain ⟨t, e⟩ := h 0 u rfl
    refine .cons ⟨t, ?_⟩ (rng_vals (by simpa using hl) fun j v e => ?_)
    · rw [e]; simp
    · have := h (j + 1) v (by simpa using e)
      simpa using this
theorem pe_list_rng {e : Expr} {te : TE} {p1 p2 pos1 pos2 : Pos} (hc : X.calm = true) (hg : Gl X "list") (hm : X.mg "list" = none) (hg2 : Gl X "range") (hm2 : X.mg "range" = none) (he : PE X e te)
    (hv : bootBuiltins "list" = some (.type "list") := by decide +kernel)
    (s1 : starEach [.Call (.Name "range" p2) [e] [] pos2] X.env = (false, eval (.Call (.Name "range" p2) [e] [] pos2) X.env) :: starEach [] X.env := by rfl) (s2 : starEach [e] X.env = (false, eval e X.env) :: starEach [] X.env := by rfl) :
    PE X (.Call (.Name "list" p1) [.Call (.Name "range" p2) [e] [] pos2] [] pos1) (tLRg te) := by
  intro pins s σ H Q I h
  refine wpAny_Call_Name_kw (ld_blt I hg hm hv ?_ (by decide) (by decide))
  refine PyProof.Rows.callWith_type1 ?_ s1 rfl
  rw [s1]
  refine Calls.spliced_cons ?_
  refine wpAny_Call_Name_kw (ld_blt I hg2 hm2 boot_range ?_ (by decide) (by decide))
  refine PyProof.Rows.callWith_type1 ?_ s2 rfl
  rw [s2]
  refine Calls.spliced_cons (thn (he pins s σ H _ I h) fun u t1 ⟨x, H1, I1, r1, n, ex, hn, q⟩ => ?_)
  subst ex
  obtain ⟨t, rfl⟩ := r1
  refine Calls.spliced_nil ?_
  refine call_range_1 ?_
  refine Calls.spliced_nil ?_
  have hsz : (t1.heap.push { cls := .type "range", data := .fields #[.int 0 t1.toks, .int (n : Int) t, .int 1 (t1.toks + 1)] }).objs.size = t1.heap.objs.size + 1 := Heap.size_push _ _
  refine call_list_range (n := n) (I.ok.hd hc) (IsRange.new ..) (small_one (by omega) (by omega) (by omega) (by omega)) (by rw [rangeSize_one]; split <;> omega) (by omega) fun h' tk acc' c' hk hS' hacc => ?_
  have keep : ∀ b o, t1.heap.get? b = some o → h'.get? b = some o := fun b o e => hk b o (Heap.get?_push_of_some _ e)
  refine ⟨.ref (t1.heap.push { cls := .type "range", data := .fields #[.int 0 t1.toks, .int (n : Int) t, .int 1 (t1.toks + 1)] }).objs.size, _, I1.laid (a := (t1.heap.push { cls := .type "range", data := .fields #[.int 0 t1.toks, .int (n : Int) t, .int 1 (t1.toks + 1)] }).objs.size) (o := .lst ((irng 0 n).map V.int)) (t' := tk) keep (by rw [hsz]; omega) ⟨?_, acc'.toList, c', ?_, ?_⟩, rfl, q _ (I1.hok.fresh (by rw [hsz]; omega))⟩
  · rw [List.length_map, irng_length]; exact small hn
  · refine rng_vals (by rw [Array.length_toList, hacc.1, irng_length]) fun j v e => ?_
    have e' : acc'[j]? = some v := by rw [← Array.getElem?_toList]; exact e
    obtain ⟨t', rfl⟩ := hacc.2 j v e'
    have hj : j < n := by have := (Array.getElem?_eq_some_iff.mp e').1; rw [hacc.1] at this; exact this
    refine ⟨t', ?_⟩
    congr 1
    unfold irng
    rw [List.getD_eq_getElem?_getD, List.getElem?_map, List.getElem?_range hj]
    simp
  · rw [Array.toArray_toList]; exact hS'
end
end L2

set_option Elab.async false
set_option linter.all false
set_option maxRecDepth 100000
set_option maxHeartbeats 4000000
namespace L2
open PySem PySem.Spec PyProof.Rows
/-! ### enumerate(e, start=1) -/
section
variable {M : Model} {A : Around} {E : Value → Shared → Prop} {s : Shared} {env : Env}
/-- a built-in type called with one argument and some by name -/
theorem callWith_tyK {pos : Pos} {T : String} {e : Expr} {kws : List Keyword} {Q : Value → Shared → Prop}
    (h : wpAny M A (spliced (backTo pos (starEach [e] env))) (fun vs s1 => wpAny M A (evalAll ((backToKw pos (keywordEach kws env)).map (·.2))) (fun kvs s2 => wpAny M A (call (.type T) vs (((backToKw pos (keywordEach kws env)).filterMap (·.1)).zip kvs)) Q E s2) E s1) E s)
    (he : backTo pos (starEach [e] env) = (false, eval e env) :: backTo pos (starEach [] env) := by rfl) (hpl : (backTo pos (starEach [e] env)).any (·.1) = false := by rfl)
    (hall : (backToKw pos (keywordEach kws env)).all (·.1.isSome) = true := by rfl) (hkw : (backToKw pos (keywordEach kws env)).any (·.1.isNone) = false := by rfl) :
    wpAny M A (callWith pos (.type T) [] (backTo pos (starEach [e] env)) (backToKw pos (keywordEach kws env))) Q E s := by
  unfold callWith
  have h2 : wpAny M A (evalArgs (.type T) true (backTo pos (starEach [e] env)) (backToKw pos (keywordEach kws env))) (fun a s1 => wpAny M A (call (.type T) a.pos a.kw) Q E s1) E s := by
    rw [he] at h ⊢
    exact evalArgs_kwB hall h
  refine wpAny_bind (wpAny_holding (wpAny_mono h2 (fun a s1 h1 => wpAny_bind (wpAny_standAt ?_)) fun _ _ x => x))
  simp only [hpl, hkw, Bool.or_false]
  exact wpAny_bind (wpAny_pure (wpAny_bind (wpAny_mono h1 (fun r s2 hr => wpAny_bind (wpAny_holding (wpAny_point (wpAny_pure hr)))) fun _ _ x => x)))
end
theorem typeCall_enum1 (l : Addr) (t : Tok) : checkTypeCall "enumerate" ⟨[.ref l], [("start", .int 1 t)]⟩ = pure () := by kernel_rfl
theorem newCall_enum1 (l : Addr) (t : Tok) : checkBuiltinCall "enumerate.__new__" ⟨[.type "enumerate", .ref l], [("start", .int 1 t)]⟩ = pure () := by kernel_rfl
theorem initArgs_enum1 (obj : Value) (l : Addr) (t : Tok) : argsOk "object.__init__" ⟨[obj, .ref l], [("start", .int 1 t)]⟩ := by unfold argsOk; kernel_rfl
section
theorem meets_enum1 (l : Addr) (items : Array Value) (n : Nat) (t : Tok) (dct : Option Addr) (sl : Array (Option Value)) :
    Meets (Builtin.«enumerate.__new__» ⟨[.type "enumerate", .ref l], [("start", .int 1 t)]⟩) (fun _ R s => s.heap.get? l = some { cls := .type "list", dict := dct, data := .seq items n, slots := sl } ∧
      R (.ok (.ret (.ref (s.heap.push { cls := .type "list_iterator", data := .fields #[.ref l, .int 0 0] }).objs.size)))
        { s with heap := (s.heap.push { cls := .type "list_iterator", data := .fields #[.ref l, .int 0 0] }).push { cls := .type "enumerate", data := .fields #[.none, .bool false, .ref s.heap.objs.size, rawInt 1, .none, .none] } }) :=
  .of_wp fun prog w A R s h => by
    obtain ⟨hp, g, d, tk, os⟩ := s; obtain ⟨hl, h⟩ := h
    have hsub := sub_enumerate
    have hL : Heap.IsList (Shared.heap ⟨hp, g, d, tk, os⟩) l items := ⟨_, hl, rfl, n, rfl⟩
    wp_walk using AutoSeq1.wpAny_loadPart' hl
    refine wpAny_stack_any fun st => wpAny_pure ?_
    split
    · rename_i c _ _ _ _ _
      cases (c == Value.type "enumerate")
      · wp_walk using AutoSeq1.wpAny_loadPart' hl, wpAny_pyIter_list hL
        exact ⟨_, rfl, h⟩
      · wp_walk using AutoSeq1.wpAny_loadPart' hl, wpAny_pyIter_list hL
        exact ⟨_, rfl, h⟩
    · wp_walk using AutoSeq1.wpAny_loadPart' hl, wpAny_pyIter_list hL
      exact ⟨_, rfl, h⟩
end
section
variable {prog : Program} {w : World} {A : Around} {E : Value → Shared → Prop} {s : Shared}
theorem init_enum1 {self : Value} {l : Addr} {t : Tok} : Meets (Builtin.«object.__init__» ⟨[self, .ref l], [("start", .int 1 t)]⟩) (fun _ R s => s.TypeIs self "enumerate" ∧ R (.ok (.ret .none)) s) := by
  refine Meets.of_wp fun prog w A R s hs => ?_
  obtain ⟨hT, hq⟩ := hs
  have hl := F.called_enumerate.init.lookup
  have hm := F.called_enumerate.made
  have hne : (some "enumerate.__new__" != some "object.__new__") = true := by decide
  repeat (any_goals (first | assumption | wp_step))
  exact ⟨_, rfl, hq⟩
theorem call_enum1 {l : Addr} {items : Array Value} {t : Tok} {Q : Value → Shared → Prop} (hL : s.heap.IsList l items)
    (h : ∀ h', IsEnum h' (s.heap.objs.size + 1) s.heap.objs.size 1 .none → h'.IsListIter s.heap.objs.size l 0 → (∀ b o, s.heap.get? b = some o → h'.get? b = some o) → Q (.ref (s.heap.objs.size + 1)) { s with heap := h' }) :
    wpAny (model prog w) A (call (.type "enumerate") [.ref l] [("start", .int 1 t)]) Q E s := by
  obtain ⟨⟨c, dct, dt, sl⟩, hl, hc, n, hd⟩ := hL
  replace hc : c = .type "list" := hc
  replace hd : dt = .seq items n := hd
  subst hc hd
  have ft := F.called_enumerate
  obtain ⟨c, tl, hmro⟩ := ft.mro
  have hmade := ft.made
  have hsub := ft.sub
  have hct := typeCall_enum1 l t
  refine wpAny_call (codeAny_of_tree (wpAny_pure ⟨Code.quiet_builtin _ (by decide +kernel), codeAny_builtin F.entry_type_call ?_⟩))
  rw [Around.under_plain (weight_type_call_type "enumerate" _ _) (units_type_call_type "enumerate" _ _)]
  have h1 := ft.notType
  have h2 := ft.canCreate
  repeat (any_goals (first | assumption | wp_step))
  have hz : (s.heap.push { cls := .type "list_iterator", data := .fields #[.ref l, .int 0 0] }).objs.size = s.heap.objs.size + 1 := Heap.size_push ..
  refine codeAny_mono (show codeAny _ _ _ (fun r s1 => r = .ok (.ret (.ref (s.heap.objs.size + 1))) ∧ s1 = { s with heap := (s.heap.push { cls := .type "list_iterator", data := .fields #[.ref l, .int 0 0] }).push { cls := .type "enumerate", data := .fields #[.none, .bool false, .ref s.heap.objs.size, rawInt 1, .none, .none] } }) _ from codeAny_call_builtin ft.plain F.entry_enumerate_new (wpAny_of_eq (newCall_enum1 l t) (meets_enum1 l items n t dct sl prog w A.in1 (fun r s1 => r = .ok (.ret (.ref (s.heap.objs.size + 1))) ∧ s1 = { s with heap := (s.heap.push { cls := .type "list_iterator", data := .fields #[.ref l, .int 0 0] }).push { cls := .type "enumerate", data := .fields #[.none, .bool false, .ref s.heap.objs.size, rawInt 1, .none, .none] } }) s ⟨hl, by rw [hz], rfl⟩))) fun r s1 hr => ?_
  obtain ⟨rfl, rfl⟩ := hr
  have he : IsEnum ((s.heap.push { cls := .type "list_iterator", data := .fields #[.ref l, .int 0 0] }).push { cls := .type "enumerate", data := .fields #[.none, .bool false, .ref s.heap.objs.size, rawInt 1, .none, .none] }) (s.heap.objs.size + 1) s.heap.objs.size 1 .none := by
    rw [← hz]; exact Heap.get?_push_size _ rfl
  have hT : Shared.TypeIs { s with heap := (s.heap.push { cls := .type "list_iterator", data := .fields #[.ref l, .int 0 0] }).push { cls := .type "enumerate", data := .fields #[.none, .bool false, .ref s.heap.objs.size, rawInt 1, .none, .none] } } (.ref (s.heap.objs.size + 1)) "enumerate" := ⟨_, he, rfl⟩
  have hli := ft.init.lookup
  have hbi := ft.init.bind (.ref (s.heap.objs.size + 1))
  repeat (any_goals (first | assumption | wp_step))
  refine codeAny_mono (show codeAny _ _ _ (fun r s2 => r = .ok (.ret .none) ∧ s2 = { s with heap := (s.heap.push { cls := .type "list_iterator", data := .fields #[.ref l, .int 0 0] }).push { cls := .type "enumerate", data := .fields #[.none, .bool false, .ref s.heap.objs.size, rawInt 1, .none, .none] } }) _ from codeAny_call_builtin ft.init.plain F.entry_object_init (ft.init.check _ _ _ _ _ _ _ _ hT (initArgs_enum1 _ l t) (init_enum1 prog w A.in1 (fun r s2 => r = .ok (.ret .none) ∧ s2 = { s with heap := (s.heap.push { cls := .type "list_iterator", data := .fields #[.ref l, .int 0 0] }).push { cls := .type "enumerate", data := .fields #[.none, .bool false, .ref s.heap.objs.size, rawInt 1, .none, .none] } }) _ ⟨hT, rfl, rfl⟩))) fun r s2 hr => ?_
  obtain ⟨rfl, rfl⟩ := hr
  repeat (any_goals (first | assumption | wp_step))
  exact h _ he ⟨_, Heap.get?_push_of_some _ (Heap.get?_push_size _ rfl), rfl, rfl⟩ fun b o x => Heap.get?_push_of_some _ (Heap.get?_push_of_some _ x)
end
section
variable {X : Cx}
theorem pi_enum1 {l : Expr} {tl : TE} {p pos kp cp : Pos} {j} {elts : List Expr} {x1} {tp : Pos} (hg : Gl X "enumerate") (hm : X.mg "enumerate" = none) (hl : PE X l tl) (hs : starEach [l] X.env = (false, eval l X.env) :: starEach [] X.env := by rfl) :
    PI X (.Tuple elts x1 tp) (.Call (.Name "enumerate" p) [l] [⟨some "start", .Constant (.int 1) j cp, kp⟩] pos) (iEnum X.K 1 tl) := by
  intro pins s σ H R I h
  refine wpAny_Call_Name_kw (ld_blt I hg hm (show bootBuiltins "enumerate" = some (.type "enumerate") by decide +kernel) ?_ (by decide) (by decide))
  refine callWith_tyK ?_ (by rw [hs]; rfl) (by rw [hs]; rfl)
  rw [hs]
  refine Calls.spliced_cons (thn (hl pins s σ H _ I h) fun u s1 ⟨x, H1, I1, r1, a, ex, ⟨xs, hq⟩, q⟩ => ?_)
  subst ex
  have r1 : u = Value.ref a := r1
  subst r1
  refine Calls.spliced_nil ?_
  refine PyProof.Rows.kws_cons (thn ((pe_int (X := X)) pins s1 σ H1 (fun v H2 => v = .int 1 ∧ H2 = H1) I1 ⟨rfl, rfl⟩) fun u2 s2 ⟨x2, H2, I2, r2, e1, e2⟩ => ?_)
  subst e1 e2
  obtain ⟨t, rfl⟩ := r2
  refine PyProof.Rows.kws_nil ?_
  show wpAny _ _ (call (.type "enumerate") [.ref a] [("start", .int 1 t)]) _ _ _
  obtain ⟨its, rv, pl, hz⟩ := I2.list hq
  exact call_enum1 pl.isList fun h' he hi hk => enum_pie (k := 1) (tk := s2.toks) I2 hq q he hi hk
end
/-- what a comprehension over an enumeration tells -/
def enF (xs : List V) (Pt : Nat → V → Bool) (F : Nat → V → V) (i : Nat) : List V := ((List.range i).filter fun j => Pt j (xs.getD j .non)).map fun j => F j (xs.getD j .non)
theorem enF_succ {xs : List V} {Pt : Nat → V → Bool} {F : Nat → V → V} {i : Nat} {x : V} (h : xs[i]? = some x) : enF xs Pt F (i + 1) = if Pt i x = true then enF xs Pt F i ++ [F i x] else enF xs Pt F i := by
  have e : xs.getD i .non = x := by rw [List.getD_eq_getElem?_getD, h]; rfl
  unfold enF
  rw [List.range_succ, List.filter_append, List.map_append, List.filter_cons, e]
  by_cases c : Pt i x = true
  · rw [if_pos c, if_pos c, List.map_cons, e]; rfl
  · rw [if_neg c, if_neg c]; simp
theorem enF_len (xs : List V) (Pt : Nat → V → Bool) (F : Nat → V → V) (i : Nat) : (enF xs Pt F i).length ≤ i := by
  unfold enF
  rw [List.length_map]
  exact Nat.le_trans (List.length_filter_le _ _) (by rw [List.length_range]; exact Nat.le_refl _)
theorem comp_enum {K : PySem.W.Frag} {a : Addr} {xs : List V} {k : Nat} {rest : St} {tc : TT} {te : TE} {p : Addr} {H : Hp} {Q : VK} {σ0 : St} (Pt : Nat → V → Bool) (F : Nat → V → V) (hn : xs.length ≤ 1000) (hS : SqL K H a xs) (hp : H p = none) (h0 : ∃ t u, σ0 = t :: u :: rest)
    (hc : ∀ (i : Nat) x H' (R : Bool → Hp → Prop), xs[i]? = some x → Same H H' → R (Pt i x) H' → tc (some (.int ((k + i : Nat) : Int)) :: some x :: rest) H' R)
    (he : ∀ (i : Nat) x H' (R : VK), xs[i]? = some x → Same H H' → Pt i x = true → R (F i x) H' → te (some (.int ((k + i : Nat) : Int)) :: some x :: rest) H' R)
    (hq : ∀ H', Same H H' → H' p = some (.lst (enF xs Pt F xs.length)) → Q (.ref p) H') : CompGo (Ite K a k) (gTup K 2 (gCons (gName 0) (gCons (gName 1) gNil))) tc te p Q σ0 H := by
  refine ⟨fun i m σ' H' => m = xs.length - i ∧ i ≤ xs.length ∧ (∃ t u, σ' = t :: u :: rest) ∧ Same H H' ∧ H' p = some (.lst (enF xs Pt F i)), ⟨xs.length, by simp, Nat.zero_le _, h0, same_new hp _, upd_same⟩, ?_⟩
  rintro i m σ' H' ⟨rfl, hi, ⟨t, u, rfl⟩, s1, ep⟩
  by_cases hlt : i < xs.length
  · refine .inr ⟨⟨xs, xs[i], s1.seq hS, by simp [hlt]⟩, fun x H2 y => ?_⟩
    obtain ⟨tt, y, hn', rfl, rfl, hy⟩ := y
    have e2 := hy xs (s1.seq hS)
    have s2 := s1.trans (same_new hn' (.tup [.int ((k + i : Nat) : Int), y]))
    have hpt : p ≠ tt := ne_of_none ep hn'
    have ep2 : upd H' tt (.tup [.int ((k + i : Nat) : Int), y]) p = some (.lst (enF xs Pt F i)) := by rw [upd_ne hpt]; exact ep
    refine ⟨tt, _, rfl, SqT.of upd_same, rfl, _, _, rfl, _, _, rfl, rfl, ?_⟩
    show tc (some (.int ((k + i : Nat) : Int)) :: some y :: rest) _ _
    refine hc i y _ _ e2 s2 ?_
    cases hpt2 : Pt i y with
    | true =>
      rw [if_pos rfl]
      refine he i y _ _ e2 s2 hpt2 ?_
      refine ⟨_, ep2, Nat.lt_of_le_of_lt (Nat.le_trans (enF_len xs Pt F i) hi) (small1000 hn), xs.length - (i + 1), by omega, rfl, by omega, ⟨_, _, rfl⟩, same_upd s2 hp _, ?_⟩
      rw [upd_same, enF_succ e2, if_pos hpt2]
    | false =>
      rw [if_neg (by decide)]
      refine ⟨xs.length - (i + 1), by omega, rfl, by omega, ⟨_, _, rfl⟩, s2, ?_⟩
      rw [ep2, enF_succ e2, if_neg (by rw [hpt2]; decide)]
  · have e : i = xs.length := by omega
    subst e
    exact .inl ⟨⟨xs, s1.seq hS, rfl⟩, hq H' s1 ep⟩
/-- for i, x in enumerate(a list that the body leaves as it is) -/
theorem for_enum {K : PySem.W.Frag} {a : Addr} {xs : List V} {k : Nat} {g : TG} {tb : TS} {D : Ends} {σ : St} {H : Hp} (Pv : Nat → St → Hp → Prop) (h0 : Pv 0 σ H) (hl : ∀ i σ H, i ≤ xs.length → Pv i σ H → SqL K H a xs)
    (hs : ∀ i x σ H t, xs[i]? = some x → Pv i σ H → H t = none → g (.ref t) σ (upd H t (.tup [.int ((k + i : Nat) : Int), x])) fun σ2 H2 => tb { D with nx := Pv (i + 1), ct := Pv (i + 1), bk := D.nx } σ2 H2) (hd : ∀ σ H, Pv xs.length σ H → D.nx σ H) :
    ∃ W : Nat → Nat → St → Hp → Prop, (∃ m, W 0 m σ H) ∧ ∀ i m σ H, W i m σ H →
      ((Ite K a k).stop i H ∧ D.nx σ H) ∨ ((Ite K a k).go i H ∧ ∃ N : St → Hp → Prop, (∀ σ' H', N σ' H' → ∃ m', m' < m ∧ W (i + 1) m' σ' H') ∧ ∀ x H', (Ite K a k).yld i H x H' → g x σ H' fun σ2 H2 => tb { D with nx := N, ct := N, bk := D.nx } σ2 H2) := by
  refine ⟨fun i m σ H => m = xs.length - i ∧ i ≤ xs.length ∧ Pv i σ H, ⟨xs.length, by simp, Nat.zero_le _, h0⟩, ?_⟩
  rintro i m σ H ⟨rfl, hi, p⟩
  have q := hl i σ H hi p
  by_cases hlt : i < xs.length
  · refine .inr ⟨⟨xs, xs[i], q, by simp [hlt]⟩, Pv (i + 1), fun σ' H' p' => ⟨xs.length - (i + 1), by omega, rfl, hlt, p'⟩, fun x H' y => ?_⟩
    obtain ⟨t, y, ht, rfl, rfl, hy⟩ := y
    exact hs i y σ H t (hy xs q) p ht
  · have e : i = xs.length := by omega
    subst e
    exact .inl ⟨⟨xs, q, rfl⟩, hd σ H p⟩
end L2
namespace L2
open PySem PySem.Spec PyProof.Rows
/-- a comprehension over a list whose test and element may make things -/
theorem comp_listS {K : PySem.W.Frag} {a : Addr} {xs : List V} {rest : St} {tc : TT} {te : TE} {p : Addr} {H : Hp} {Q : VK} {σ0 : St} (Pt : V → Bool) (F : V → V) (hn : xs.length ≤ 1000) (hS : SqL K H a xs) (hp : H p = none) (h0 : ∃ t, σ0 = t :: rest)
    (hc : ∀ x H' (R : Bool → Hp → Prop), x ∈ xs → Same H H' → (∀ H2, Same H' H2 → R (Pt x) H2) → tc (some x :: rest) H' R)
    (he : ∀ x H' (R : VK), x ∈ xs → Same H H' → Pt x = true → (∀ H2, Same H' H2 → R (F x) H2) → te (some x :: rest) H' R)
    (hq : ∀ H', Same H H' → H' p = some (.lst ((xs.filter Pt).map F)) → Q (.ref p) H') : CompGo (Itl K a) (gName 0) tc te p Q σ0 H := by
  have len : ∀ i, (((xs.take i).filter Pt).map F).length ≤ xs.length := fun i => by
    rw [List.length_map]
    exact Nat.le_trans (List.length_filter_le _ _) (by rw [List.length_take]; omega)
  refine ⟨fun i m σ' H' => m = xs.length - i ∧ i ≤ xs.length ∧ (∃ t, σ' = t :: rest) ∧ Same H H' ∧ H' p = some (.lst (((xs.take i).filter Pt).map F)), ⟨xs.length, by simp, Nat.zero_le _, h0, same_new hp _, upd_same⟩, ?_⟩
  rintro i m σ' H' ⟨rfl, hi, ⟨t, rfl⟩, s1, ep⟩
  by_cases hlt : i < xs.length
  · refine .inr ⟨⟨xs, xs[i], s1.seq hS, by simp [hlt]⟩, fun x H2 y => ?_⟩
    obtain ⟨e1, y⟩ := y
    subst e1
    have e2 := y xs (s1.seq hS)
    have hx : x ∈ xs := List.mem_of_getElem? e2
    have e3 : xs.take (i + 1) = xs.take i ++ [x] := by rw [List.take_add_one, e2]; rfl
    show tc (some x :: rest) _ _
    refine hc x _ _ hx s1 fun H3 s3 => ?_
    cases hpx : Pt x with
    | true =>
      rw [if_pos rfl]
      refine he x _ _ hx (s1.trans s3) hpx fun H4 s4 => ?_
      refine ⟨_, s4 _ _ (s3 _ _ ep), Nat.lt_of_le_of_lt (len i) (small1000 hn), xs.length - (i + 1), by omega, rfl, by omega, ⟨_, rfl⟩, same_upd (s1.trans (s3.trans s4)) hp _, ?_⟩
      rw [upd_same, e3, List.filter_append, List.map_append, List.filter_cons, if_pos hpx]
      rfl
    | false =>
      rw [if_neg (by decide)]
      refine ⟨xs.length - (i + 1), by omega, rfl, by omega, ⟨_, rfl⟩, s1.trans s3, ?_⟩
      rw [s3 _ _ ep, e3, List.filter_append, List.filter_cons, if_neg (by rw [hpx]; decide), List.filter_nil, List.append_nil]
  · have e : i = xs.length := by omega
    subst e
    rw [List.take_length] at ep
    exact .inl ⟨⟨xs, s1.seq hS, Nat.le_refl _⟩, hq H' s1 ep⟩
end L2

set_option Elab.async false
set_option linter.all false
set_option maxRecDepth 100000
set_option maxHeartbeats 4000000
namespace L2
open PySem PySem.Builtin PySem.Builtin.Str
section
variable {prog : Program} {w : World} {A : Around} {E : Value → Shared → Prop} {s : Shared} {x y : Str} {t u : Tok} {Q : Value → Shared → Prop}
/-- x.split(y): the new list -/
theorem split_new (hy : (y.length == 0) = false) (hx : x.length ≤ sizeLine) (hn : (Txt.split x y).length ≤ sizeLine)
    (q : ∀ l k, l.map (·.1) = Txt.split x y → Q (.ref s.heap.objs.size) { s with heap := s.heap.push { cls := .type "list", data := .seq (strValues l).toArray }, toks := k }) :
    wpAny (model prog w) A (call (.builtin "str.split") [.str x t, .str y u]) Q E s := by
  by_cases c1 : (decide (x.length < y.length) || decide (strKind x < strKind y)) = true
  · have e : Txt.split x y = [x] := by unfold Txt.split; rw [if_pos c1]
    exact call_meets F.slot_str_split (typeIs_str _ _ _) F.entry_str_split (F.args_str_split_2 _ _) (meets_str_split_cannot_occur x y t u c1) (q [(x, t)] s.toks e.symm)
  · have c1' : (decide (x.length < y.length) || decide (strKind x < strKind y)) = false := by simpa using c1
    by_cases c2 : (occurrences x y 0 x.length (x.length + 1)).isEmpty = true
    · have e : Txt.split x y = [x] := by unfold Txt.split; rw [if_neg c1, if_pos c2]
      exact call_meets F.slot_str_split (typeIs_str _ _ _) F.entry_str_split (F.args_str_split_2 _ _) (meets_str_split_not_found x y t u c1' hy c2) (q [(x, t)] s.toks e.symm)
    · have c2' : (occurrences x y 0 x.length (x.length + 1)).isEmpty = false := by simpa using c2
      have e : Txt.split x y = partsBetween x (occurrences x y 0 x.length (x.length + 1)) y.length := by unfold Txt.split; rw [if_neg c1, if_neg c2]
      rw [e] at hn
      refine call_meets F.slot_str_split (typeIs_str _ _ _) F.entry_str_split (F.args_str_split_2 _ _) (meets_str_split_sep x y t u c1' hy c2' hx hn) ?_
      rw [strsFrom_eq]
      exact q (numbered s.toks _) _ ((numbered_texts _ _).trans e.symm)
/-- all(a list of truths) -/
theorem all_bools {l : Addr} {bs : List Bool} (hh : A.handled = none) (hl : s.heap.IsList l (bs.map Value.bool).toArray)
    (q : ∀ h' tk, (∀ b o, s.heap.get? b = some o → h'.get? b = some o) → Q (.bool (bs.all id)) { s with heap := h', toks := tk }) :
    wpAny (model prog w) A (call (.builtin "all") [.ref l]) Q E s := by
  have hlt : l < s.heap.objs.size := by obtain ⟨_, e, _⟩ := hl; exact Heap.lt_size e
  refine call_all_walk (wpAny_pyIter_list hl ?_)
  refine ⟨_, _, _, _, _, _, (fun i => bs.getD i false), rfl, Walks.list (A := A.in1) hh _ l (Nat.ne_of_lt hlt) (bs.map Value.bool).toArray, ⟨⟨_, Heap.get?_push_size _ rfl, rfl, rfl⟩, hl.push _⟩, ?_, fun h' tk hk => ?_⟩
  · intro i v s' Q' E' hv hq
    rw [List.getElem?_toArray, List.getElem?_map] at hv
    cases e : bs[i]? with
    | none => rw [e] at hv; cases hv
    | some b =>
      rw [e] at hv
      have hv : v = .bool b := (Option.some.inj hv).symm
      subst hv
      refine wpAny_truthy_bool ?_
      rw [show b = bs.getD i false by rw [List.getD_eq_getElem?_getD, e]; rfl]
      exact hq
  · have e : (List.range (bs.map Value.bool).toArray.size).all (fun i => bs.getD i false) = bs.all id := by
      rw [List.size_toArray, List.length_map, Bool.eq_iff_iff, List.all_eq_true, List.all_eq_true]
      constructor
      · intro h b hb
        obtain ⟨i, hi, e⟩ := List.getElem_of_mem hb
        have := h i (List.mem_range.mpr hi)
        rw [List.getD_eq_getElem?_getD, List.getElem?_eq_getElem hi] at this
        rw [← e]; exact this
      · intro h i hi
        have hi := List.mem_range.mp hi
        rw [List.getD_eq_getElem?_getD, List.getElem?_eq_getElem hi]
        exact h _ (List.getElem_mem hi)
    rw [e]
    exact q h' tk fun b o ho => hk b o (fun hm => absurd (Heap.lt_size ho) (by rw [List.mem_singleton.mp hm]; exact Nat.lt_irrefl _)) (Heap.get?_push_of_some _ ho)
end
/-! ### texts cut at a sign -/
/-- the sign c -/
def sg (c : Nat) : Str := ⟨#[c]⟩
theorem join_cons2 (sep a b : Str) (r : List Str) : Str.join sep (a :: b :: r) = a ++ sep ++ Str.join sep (b :: r) := rfl
/-- what is before the first c, what is behind it -/
theorem cut_unique {c : Nat} : ∀ {a b : List Nat} {u v : List Nat}, c ∉ a → c ∉ b → a ++ c :: u = b ++ c :: v → a = b ∧ u = v
  | [], [], u, v, _, _, h => ⟨rfl, by simpa using h⟩
  | [], y :: b, u, v, _, hb, h => by
    rw [List.nil_append, List.cons_append] at h
    exact absurd (List.cons.inj h).1 (fun e => hb (by rw [e]; exact List.mem_cons_self))
  | x :: a, [], u, v, ha, _, h => by
    rw [List.nil_append, List.cons_append] at h
    exact absurd (List.cons.inj h).1 (fun e => ha (by rw [← e]; exact List.mem_cons_self))
  | x :: a, y :: b, u, v, ha, hb, h => by
    rw [List.cons_append, List.cons_append] at h
    obtain ⟨e, h⟩ := List.cons.inj h
    obtain ⟨e1, e2⟩ := cut_unique (fun m => ha (List.mem_cons_of_mem _ m)) (fun m => hb (List.mem_cons_of_mem _ m)) h
    exact ⟨by rw [e, e1], e2⟩
theorem str_toList {a b : Str} (h : a.cps.toList = b.cps.toList) : a = b := by
  cases a; cases b
  congr 1
  exact Array.toList_inj.mp h
theorem app_toList (a b : Str) : (a ++ b).cps.toList = a.cps.toList ++ b.cps.toList := by rw [Str.cps_append, Array.toList_append]
theorem join_toList2 (c : Nat) (a b : Str) (r : List Str) : (Str.join (sg c) (a :: b :: r)).cps.toList = a.cps.toList ++ c :: (Str.join (sg c) (b :: r)).cps.toList := by
  rw [join_cons2, app_toList, app_toList]
  show (a.cps.toList ++ [c]) ++ _ = _
  rw [List.append_assoc]; rfl
theorem join_inj {c : Nat} : ∀ {ps qs : List Str}, ps ≠ [] → qs ≠ [] → (∀ p ∈ ps, c ∉ p.cps.toList) → (∀ p ∈ qs, c ∉ p.cps.toList) → Str.join (sg c) ps = Str.join (sg c) qs → ps = qs
  | [], _, h, _, _, _, _ => absurd rfl h
  | _ :: _, [], _, h, _, _, _ => absurd rfl h
  | [p], [q], _, _, _, _, h => by
    have h : p = q := h
    rw [h]
  | [p], q :: q2 :: r, _, _, hp, _, h => by
    have h := congrArg (fun z : Str => z.cps.toList) h
    rw [join_toList2] at h
    have h : p.cps.toList = _ := h
    exact absurd (show c ∈ p.cps.toList by rw [h]; simp) (hp p List.mem_cons_self)
  | p :: p2 :: r, [q], _, _, _, hq, h => by
    have h := congrArg (fun z : Str => z.cps.toList) h
    rw [join_toList2] at h
    have h : _ = q.cps.toList := h
    exact absurd (show c ∈ q.cps.toList by rw [← h]; simp) (hq q List.mem_cons_self)
  | p :: p2 :: r, q :: q2 :: r2, _, _, hp, hq, h => by
    have h := congrArg (fun z : Str => z.cps.toList) h
    rw [join_toList2, join_toList2] at h
    obtain ⟨e1, e2⟩ := cut_unique (hp p List.mem_cons_self) (hq q List.mem_cons_self) h
    have ih := join_inj (ps := p2 :: r) (qs := q2 :: r2) (by simp) (by simp) (fun x hx => hp x (List.mem_cons_of_mem _ hx)) (fun x hx => hq x (List.mem_cons_of_mem _ hx)) (str_toList e2)
    rw [str_toList e1, ih]
theorem split_ne (x : Str) (c : Nat) : Txt.split x (sg c) ≠ [] := by
  unfold Txt.split
  split
  · simp
  · split
    · simp
    · rw [StrLaws.partsBetween_eq]
      obtain ⟨p, r, e⟩ := StrLaws.partsFrom_ne x (sg c).length 0 (occurrences x (sg c) 0 x.length (x.length + 1))
      rw [e]; simp
theorem split_join {c : Nat} {ps : List Str} (h : ps ≠ []) (hp : ∀ p ∈ ps, c ∉ p.cps.toList) : Txt.split (Str.join (sg c) ps) (sg c) = ps :=
  join_inj (split_ne _ c) h (fun p hp => StrLaws.split_free _ c p hp) hp (StrLaws.join_split _ _)
theorem txt_join (sep : Str) (ps : List Str) : Txt.join sep ps = Str.join sep ps := StrLaws.glued_eq_join sep ps
theorem str_no_int : typeLookup (.type "str") "__int__" = pure none := by rw [typeLookup_type, builtinLookup_eq_fast]; kernel_rfl
theorem str_no_index : typeLookup (.type "str") "__index__" = pure none := by rw [typeLookup_type, builtinLookup_eq_fast]; kernel_rfl
theorem str_no_trunc : typeLookup (.type "str") "__trunc__" = pure none := by rw [typeLookup_type, builtinLookup_eq_fast]; kernel_rfl
/-- the figures of a number below 100 -/
def numT (n : Nat) : Str := if n < 10 then ⟨#[48 + n]⟩ else ⟨#[48 + n / 10, 48 + n % 10]⟩
theorem numT_text : ∀ n : Nat, n < 100 → Str.ofString (toString ((n : Nat) : Int)) = numT n := by decide +kernel
theorem wp_eq {α : Type} {M : Model} {A : Around} {t t' : Sem α} {Q : α → Shared → Prop} {E : Value → Shared → Prop} {s : Shared} (e : t = t') (h : wpAny M A t' Q E s) : wpAny M A t Q E s := e ▸ h
theorem meets_int_numT (n : Nat) (t : Tok) (hn : n < 100) : Meets (Builtin.«int.__new__» ⟨[.type "int", .str (numT n) t], []⟩) (Made.int n).spec :=
  .of_wp fun prog w A R s h => by
    obtain ⟨hp, g, d, tk, os⟩ := s
    have f1 := F.conv_sub_int
    have f2 := F.madeHere_int
    have f3 := str_no_int
    have f4 := str_no_index
    have f5 := str_no_trunc
    repeat (any_goals (first | assumption | wp_step))
    refine wp_eq (t' := mkInt n) ?e (wpAny_mkInt ?_)
    case e =>
      clear h f1 f2 f3 f4 f5
      iterate 100 (obtain _ | n := n; · kernel_rfl)
      omega
    repeat (any_goals (first | assumption | wp_step))
    exact ⟨_, rfl, h⟩
theorem call_int_numT {prog : Program} {w : World} {A : Around} {E : Value → Shared → Prop} {s : Shared} {n : Nat} {t : Tok} {Q : Value → Shared → Prop} (hn : n < 100) (h : Q (.int n s.toks) { s with toks := s.toks + 1 }) :
    wpAny (model prog w) A (call (.type "int") [.str (numT n) t]) Q E s :=
  call_int_1 (meets_int_numT n t hn) ⟨typeIs_int _ _ _, h⟩
end L2
namespace L2
open PySem PySem.Spec PyProof.Rows
section
variable {X : Cx}
/-- {e} of a whole number in a text -/
def tFmt (te : TE) : TE := fun σ H Q => te σ H fun x H1 => ∃ i : Int, x = .int i ∧ i.natAbs.log2 < 1920 ∧ Q (.str (toString i)) H1
theorem pe_fmt {e : Expr} {te : TE} {pos : Pos} (he : PE X e te) : PE X (.FormattedValue e (-1) none pos) (tFmt te) := by
  intro pins s σ H Q I h
  refine FormattedValue_plain (thn (he pins s σ H _ I h) fun v s1 ⟨x, H1, I1, r1, i, ex, hi, q⟩ => ?_)
  subst ex
  obtain ⟨t, rfl⟩ := r1
  exact formatField_int_small hi ⟨.str (toString i), H1, I1.tok _, ⟨_, rfl⟩, q⟩
/-- a text of two parts -/
def tFs2 (ta tb : TE) : TE := fun σ H Q => ta σ H fun x H1 => ∃ a, x = .str a ∧ a.length ≤ 1000 ∧ tb σ H1 fun y H2 => ∃ b, y = .str b ∧ a.length + b.length ≤ 1000 ∧ Q (.str (a ++ b)) H2
theorem empty_app (a : Str) : Str.empty ++ a = a := by
  apply str_toList
  rw [app_toList]; rfl
theorem tFs2_len {a b : Str} (h : a.length + b.length ≤ 1000) : (a ++ b).length ≤ sizeLine := by
  rw [strLen_append]; exact small h
theorem pe_fs2 {a b : Expr} {ta tb : TE} {pos : Pos} (ha : PE X a ta) (hb : PE X b tb) : PE X (.JoinedStr [a, b] pos) (tFs2 ta tb) := by
  intro pins s σ H Q I h
  refine JoinedStr_many ?_
  refine joinParts_cons (thn (ha pins s σ H _ I h) fun v s1 ⟨x, H1, I1, r1, z, ez, hlen, q1⟩ => ?_)
  subst ez
  obtain ⟨t, rfl⟩ := r1
  refine ⟨by rw [empty_app]; exact small hlen, ?_⟩
  rw [empty_app]
  refine joinParts_cons (thn (hb pins s1 σ H1 _ I1 q1) fun v s2 ⟨y, H2, I2, r2, z2, ez2, hz2, q2⟩ => ?_)
  subst ez2
  obtain ⟨t2, rfl⟩ := r2
  exact ⟨tFs2_len hz2, joinParts_nil ⟨.str (z ++ z2), H2, I2.tok _, ⟨_, rfl⟩, q2⟩ (tFs2_len hz2)⟩
theorem strsAre_of {ys : List Str} : ∀ {us : List Value}, Vals (ys.map V.str) us → StrsAre us ys := by
  induction ys with
  | nil => intro us r; cases r; exact .nil
  | cons y ys ih =>
    intro us r
    cases r with
    | cons a b =>
      obtain ⟨t, rfl⟩ := a
      exact .cons _ _ (ih b)
theorem vals_strs : ∀ (l : List (Str × Tok)), Vals ((l.map (·.1)).map V.str) (strValues l)
  | [] => .nil
  | p :: l => .cons ⟨_, rfl⟩ (vals_strs l)
/-- sep.join(a list of texts) -/
def rJoin (K : PySem.W.Frag) : V → List V → Hp → VK → Prop := fun x vs H Q => ∃ (sep : Str) (l : Addr) (ys : List Str), x = .str sep ∧ vs = [.ref l] ∧ SqL K H l (ys.map V.str) ∧ sep.length ≤ 16 ∧ (ys.map (·.length)).sum + ys.length ≤ 1048576 ∧ Q (.str (Str.join sep ys)) H
theorem mt_join : MtR X "str.join" (rJoin X.K) := by
  intro pins s σ H x xs v us Q I rx rv h
  obtain ⟨sep, l, ys, rfl, rfl, hq, hs, hw, q⟩ := h
  obtain ⟨t, rfl⟩ := rx
  obtain ⟨u, rfl, ru⟩ := vals1 rv
  cases ru
  obtain ⟨its, rvs, pl, hz⟩ := I.list hq
  refine join_listW pl.isList (strsAre_of rvs) hs hw fun t' k => ⟨.str (Str.join sep ys), H, I.tok k, ⟨t', ?_⟩, q⟩
  rw [txt_join]
/-- z.split(y) -/
def rSplit : V → List V → Hp → VK → Prop := fun x vs H Q => ∃ (z : Str) (c : Nat), x = .str z ∧ vs = [.str (sg c)] ∧ z.length ≤ 1000 ∧ (Txt.split z (sg c)).length ≤ 1000 ∧ ∀ l, H l = none → Q (.ref l) (upd H l (.lst ((Txt.split z (sg c)).map V.str)))
theorem mt_split : MtR X "str.split" rSplit := by
  intro pins s σ H x xs v us Q I rx rv h
  obtain ⟨z, c, rfl, rfl, hz, hn, q⟩ := h
  obtain ⟨t, rfl⟩ := rx
  obtain ⟨u, rfl, ru⟩ := vals1 rv
  obtain ⟨t2, rfl⟩ := ru
  refine split_new (by rfl) (small hz) (small hn) fun l k e => ?_
  refine ⟨.ref s.heap.objs.size, _, I.laid (a := s.heap.objs.size) (o := .lst ((Txt.split z (sg c)).map V.str)) (t' := k) (fun b u e => Heap.get?_push_of_some _ e) (Nat.le_refl _) ⟨by rw [List.length_map]; exact small hn, strValues l, 0, ?_, Heap.get?_push_size _ rfl⟩, rfl, q _ (I.hok.fresh (Nat.le_refl _))⟩
  rw [← e]; exact vals_strs l
/-- all(a list of truths) -/
def rAllB (K : PySem.W.Frag) : List V → Hp → VK → Prop := fun xs H Q => ∃ (p : Addr) (bs : List Bool), xs = [.ref p] ∧ SqL K H p (bs.map V.bl) ∧ Q (.bl (bs.all id)) H
theorem vals_bools : ∀ {bs : List Bool} {us : List Value}, Vals (bs.map V.bl) us → us = bs.map Value.bool
  | [], _, .nil => rfl
  | b :: bs, _, .cons r t => by
    have r : _ = Value.bool b := r
    rw [r, vals_bools t]; rfl
theorem call_allB (hc : X.calm = true) : CallR X (.builtin "all") (rAllB X.K) := by
  intro pins s σ H xs us Q I r h
  obtain ⟨p, bs, rfl, hq, q⟩ := h
  obtain ⟨u, rfl, ru⟩ := vals1 r
  cases ru
  obtain ⟨its, rv, pl, hz⟩ := I.list hq
  have e := vals_bools rv
  subst e
  exact all_bools (I.ok.hd hc) pl.isList fun h' tk hk => ⟨.bl (bs.all id), H, I.kept (t' := tk) hk, rfl, q⟩
/-- int(the figures of a number below 100) -/
theorem call_int_str : CallR X (.type "int") (fun xs H Q => ∃ n : Nat, xs = [.str (numT n)] ∧ n < 100 ∧ Q (.int (n : Int)) H) := by
  intro pins s σ H xs us Q I r h
  obtain ⟨n, rfl, hn, q⟩ := h
  obtain ⟨u, rfl, ru⟩ := vals1 r
  obtain ⟨t, rfl⟩ := ru
  exact call_int_numT hn ⟨.int (n : Int), H, I.tok _, ⟨_, rfl⟩, q⟩
end
/-- the signs of a text -/
def Its (z : Str) : It := ⟨fun i _ => i < z.cps.size, fun i H x H' => H' = H ∧ ∃ c, z.cps[i]? = some c ∧ x = .str (sg c), fun i _ => i = z.cps.size⟩
theorem turn_str {P : Program} {w : World} {K : PySem.W.Frag} {tg : Expr} (it : Addr) (z : Str) (t : Tok) : Turn P w K tg (Its z) [it] it (fun i h => h.IsStrIter it "str_ascii_iterator" z t i) where
  mem := by simp
  obj := fun i h st b hb => by
    have e : b = it := by simpa using hb
    subst e
    obtain ⟨o, e, c, d⟩ := st
    exact ⟨o, e, fun v z => by rw [d] at z; cases z⟩
  keep := fun i h h' st k => by
    obtain ⟨o, e, r⟩ := st
    exact ⟨o, k it (by simp) o e, r⟩
  item := by
    intro X hP hw hK hc i pins s σ H E I hf st hg
    subst hP hw hK
    obtain ⟨f0, f1, f2, f3, f4, f5⟩ := hf it (by simp)
    have hi : i < z.cps.size := hg
    refine wpAny_pyNext_ascii_item st (c := z.cps[i]) (by simp [hi]) fun h' st' sb => ?_
    have I1 : Inv X pins σ H { s with heap := h', toks := s.toks + 1 } := I.turned (fun b o hb e => (sb.2 b hb).trans e) f0 f1 f3 f4 f5
    obtain ⟨o, e, c, d⟩ := id st'
    exact ⟨_, rfl, go_of (s := { s with heap := h', toks := s.toks + 1 }) e c d (by decide) ⟨.str (sg z.cps[i]), H, I1, ⟨_, rfl⟩, ⟨rfl, _, by simp [hi], rfl⟩, st', fun b hb => (hf b hb).1⟩⟩
  done := by
    intro X hP hw hK hc i pins s σ H E I hf st hg
    subst hP hw hK
    obtain ⟨f0, f1, f2, f3, f4, f5⟩ := hf it (by simp)
    have hi : i = z.cps.size := hg
    exact wpAny_pyNext_ascii_end (I.ok.hd hc) st (by simp [hi]) fun h' eb => ⟨rfl, I.turned (t' := s.toks) (fun b o hb e => eb b o hb e) f0 f1 f3 f4 f5⟩
  self := fun _ _ _ _ _ st h => wpAny_pyIter_striter_ascii st h
section
variable {X : Cx} {tg : Expr}
def iStr (tl : TE) : TI := fun σ H R => tl σ H fun x H1 => ∃ z : Str, x = .str z ∧ z.cps.all (· < 128) = true ∧ R (Its z) H1
theorem pi_str {l : Expr} {tl : TE} (hl : PE X l tl) : PI X tg l (iStr tl) := by
  intro pins s σ H R I h
  refine thn (hl pins s σ H _ I h) fun v s1 ⟨x, H1, I1, r1, z, ex, ha, q⟩ => ?_
  subst ex
  obtain ⟨t, rfl⟩ := r1
  refine wpAny_pyIter_ascii ha ?_
  refine ⟨s1.heap.objs.size, [s1.heap.objs.size], _, _, H1, rfl, I1.kept (t' := s1.toks) fun b o e => Heap.get?_push_of_some _ e, turn_str _ z t, ⟨_, Heap.get?_push_size _ rfl, rfl, rfl⟩, fun b hb => ?_, q⟩
  have e : b = s1.heap.objs.size := by simpa using hb
  subst e
  exact I1.fpOk (Nat.le_refl _) (I1.hok.fresh (Nat.le_refl _))
end
/-- a comprehension over a text's signs -/
theorem comp_str {z : Str} {rest : St} {te : TE} {p : Addr} {H : Hp} {Q : VK} {σ0 : St} (F : Nat → V) (hn : z.cps.size ≤ 1000) (h0 : ∃ t, σ0 = t :: rest)
    (he : ∀ c ys (R : VK), c ∈ z.cps.toList → R (F c) (upd H p (.lst ys)) → te (some (.str (sg c)) :: rest) (upd H p (.lst ys)) R)
    (hq : Q (.ref p) (upd H p (.lst (z.cps.toList.map F)))) : CompGo (Its z) (gName 0) tYes te p Q σ0 H := by
  refine ⟨fun i m σ' H' => m = z.cps.size - i ∧ i ≤ z.cps.size ∧ (∃ t, σ' = t :: rest) ∧ H' = upd H p (.lst ((z.cps.toList.take i).map F)), ⟨z.cps.size, by simp, Nat.zero_le _, h0, rfl⟩, ?_⟩
  rintro i m σ' H' ⟨rfl, hi, ⟨t, rfl⟩, rfl⟩
  by_cases hlt : i < z.cps.size
  · refine .inr ⟨hlt, fun x H2 y => ?_⟩
    obtain ⟨e1, c, ec, rfl⟩ := y
    subst e1
    have ec' : z.cps.toList[i]? = some c := by rw [Array.getElem?_toList]; exact ec
    show te (some (.str (sg c)) :: rest) _ _
    refine he c _ _ (List.mem_of_getElem? ec') ?_
    refine ⟨_, upd_same, by rw [List.length_map, List.length_take]; exact small1000 (by omega), z.cps.size - (i + 1), by omega, rfl, by omega, ⟨_, rfl⟩, ?_⟩
    rw [upd_upd, List.take_add_one, ec', List.map_append]; rfl
  · have e : i = z.cps.size := by omega
    subst e
    refine .inl ⟨rfl, ?_⟩
    rw [List.take_of_length_le (by simp)]
    exact hq
end L2

set_option Elab.async false
set_option linter.all false
set_option maxRecDepth 100000
set_option maxHeartbeats 4000000
namespace L2
open PySem
/-! ### notes as texts -/
/-- the figures of a number below 100, as signs -/
def fg (n : Nat) : List Nat := (numT n).cps.toList
theorem fg_mem : ∀ n : Nat, n < 100 → ∀ c ∈ fg n, 48 ≤ c ∧ c ≤ 57 := by decide +kernel
theorem fg_len : ∀ n : Nat, n < 100 → (numT n).length = 1 ∨ (numT n).length = 2 := by decide +kernel
theorem fg_head : ∀ n : Nat, n < 100 → (numT n).length = 2 → (fg n).headD 0 ≠ 48 := by decide +kernel
theorem fg_one : ∀ c : Nat, c < 128 → 48 ≤ c → c ≤ 57 → numT (c - 48) = ⟨#[c]⟩ ∧ c - 48 < 100 := by decide +kernel
theorem fg_two : ∀ c : Nat, c < 58 → ∀ d : Nat, d < 58 → 49 ≤ c → 48 ≤ d → numT (10 * (c - 48) + (d - 48)) = ⟨#[c, d]⟩ ∧ 10 * (c - 48) + (d - 48) < 100 := by decide +kernel
theorem in_fig : ∀ c : Nat, c < 128 → (!(Builtin.Str.occurrences "0123456789" (sg c) 0 (Str.ofString "0123456789").length 1).isEmpty) = (decide (48 ≤ c) && decide (c ≤ 57)) := by decide +kernel
theorem log_small : ∀ n : Nat, n < 100 → ((n : Nat) : Int).natAbs.log2 < 1920 := by decide +kernel
theorem str_len (z : Str) : z.length = z.cps.toList.length := by simp [Str.length]
theorem join_toList (c : Nat) : ∀ (x : Str) (zs : List Str), (Str.join (sg c) (x :: zs)).cps.toList = x.cps.toList ++ zs.flatMap (fun z => c :: z.cps.toList)
  | x, [] => by simp [Str.join]
  | x, z :: zs => by rw [join_toList2, join_toList c z zs, List.flatMap_cons]; simp
theorem cat_toList : ∀ ys : List Str, (Str.join Str.empty ys).cps.toList = ys.flatMap (fun y => y.cps.toList)
  | [] => rfl
  | [y] => by simp [Str.join]
  | y :: z :: ys => by
    rw [join_cons2, app_toList, app_toList, cat_toList (z :: ys), List.flatMap_cons]
    show (y.cps.toList ++ []) ++ _ = _
    rw [List.append_nil]; simp
/-- the text that writes a quay's length and a row -/
def TX (n : Nat) (ms : List Nat) : Str := Str.join (sg 32) ((numT n ++ sg 58) :: ms.map numT)
theorem TX_toList (n : Nat) (ms : List Nat) : (TX n ms).cps.toList = fg n ++ 58 :: ms.flatMap (fun m => 32 :: fg m) := by
  unfold TX
  rw [join_toList, app_toList, List.flatMap_map]
  show (fg n ++ [58]) ++ _ = _
  rw [List.append_assoc]; rfl
theorem TX_colon (n : Nat) (ms : List Nat) : TX n ms = Str.join (sg 58) [numT n, Str.join (sg 32) (Str.empty :: ms.map numT)] := by
  apply str_toList
  rw [TX_toList, join_toList2]
  show _ = fg n ++ 58 :: (Str.join (sg 32) (Str.empty :: ms.map numT)).cps.toList
  rw [join_toList, List.flatMap_map]; rfl
theorem TX_cat (n : Nat) (ms : List Nat) : (numT n ++ sg 58) ++ Str.join Str.empty (ms.map fun m => sg 32 ++ numT m) = TX n ms := by
  apply str_toList
  rw [TX_toList, app_toList, app_toList, cat_toList, List.flatMap_map]
  show (fg n ++ [58]) ++ _ = _
  rw [List.append_assoc]
  congr 1
  show 58 :: _ = 58 :: _
  congr 1
  show ms.flatMap (fun a => (sg 32 ++ numT a).cps.toList) = _
  induction ms with
  | nil => rfl
  | cons m ms ih => rw [List.flatMap_cons, List.flatMap_cons, ih, app_toList]; rfl
theorem TX_snoc (n : Nat) (ms : List Nat) (m : Nat) : (TX n ms ++ sg 32) ++ numT m = TX n (ms ++ [m]) := by
  apply str_toList
  rw [app_toList, app_toList, TX_toList, TX_toList, List.flatMap_append]
  show ((fg n ++ 58 :: _) ++ [32]) ++ fg m = _
  simp
theorem TX_nil (n : Nat) : numT n ++ sg 58 = TX n [] := by
  apply str_toList
  rw [app_toList, TX_toList]; rfl
theorem fg_not {n c : Nat} (h : n < 100) (hc : c < 48 ∨ 57 < c) : c ∉ fg n := fun hm => by have := fg_mem n h c hm; omega
theorem TX_parts {n : Nat} {ms : List Nat} (hn : n < 100) (hm : ∀ m ∈ ms, m < 100) : Txt.split (TX n ms) (sg 58) = [numT n, Str.join (sg 32) (Str.empty :: ms.map numT)] := by
  rw [TX_colon]
  refine split_join (by simp) fun p hp => ?_
  rcases List.mem_cons.mp hp with rfl | hp
  · exact fg_not hn (.inr (by omega))
  · have : p = Str.join (sg 32) (Str.empty :: ms.map numT) := by simpa using hp
    rw [this, join_toList]
    intro h
    have h : (58 : Nat) ∈ (ms.map numT).flatMap (fun z => 32 :: z.cps.toList) := h
    obtain ⟨z, hz, h⟩ := List.mem_flatMap.mp h
    obtain ⟨m, hm', rfl⟩ := List.mem_map.mp hz
    rcases List.mem_cons.mp h with e | h
    · cases e
    · exact fg_not (hm m hm') (.inr (by omega)) h
theorem TX_words {ms : List Nat} (hm : ∀ m ∈ ms, m < 100) : Txt.split (Str.join (sg 32) (Str.empty :: ms.map numT)) (sg 32) = Str.empty :: ms.map numT := by
  refine split_join (by simp) fun p hp => ?_
  rcases List.mem_cons.mp hp with rfl | hp
  · intro h; cases h
  · obtain ⟨m, hm', rfl⟩ := List.mem_map.mp hp
    exact fg_not (hm m hm') (.inl (by omega))
theorem fg_short {n : Nat} (h : n < 100) : (fg n).length ≤ 2 := by
  have := fg_len n h
  rw [str_len] at this
  show (numT n).cps.toList.length ≤ 2
  omega
theorem TX_len {n : Nat} {ms : List Nat} (hn : n < 100) (hm : ∀ m ∈ ms, m < 100) : (TX n ms).length ≤ 3 + 3 * ms.length := by
  rw [str_len, TX_toList, List.length_append, List.length_cons]
  have h1 := fg_short hn
  have h2 : ∀ l : List Nat, (∀ m ∈ l, m < 100) → (l.flatMap (fun m => 32 :: fg m)).length ≤ 3 * l.length := by
    intro l
    induction l with
    | nil => intro _; simp
    | cons m l ih =>
      intro h
      have a := ih fun x hx => h x (List.mem_cons_of_mem _ hx)
      have b := fg_short (h m List.mem_cons_self)
      rw [List.flatMap_cons, List.length_append, List.length_cons, List.length_cons]; omega
  have := h2 ms hm
  omega
theorem numT_ascii {n : Nat} (h : n < 100) : (numT n).cps.all (· < 128) = true := by
  rw [Array.all_eq_true']
  intro c hc
  have := fg_mem n h c (Array.mem_toList_iff.mpr hc)
  exact decide_eq_true (by omega)
end L2
namespace L2
open PySem
theorem numT_inj : ∀ n : Nat, n < 100 → ∀ m : Nat, m < 100 → numT n = numT m → n = m := by decide +kernel
end L2

set_option Elab.async false
set_option linter.all false
set_option maxRecDepth 100000
set_option maxHeartbeats 4000000
namespace L2
open PySem PySem.Spec PyProof.Rows
/-- z[:j] -/
def rSlS : V → Option Int → Option Int → Hp → VK → Prop := fun x lo hi H Q => ∃ (z : Str) (j : Int), x = .str z ∧ lo = none ∧ hi = some j ∧ z.length ≤ sizeLine ∧ Q (.str (Txt.slice z none (some j))) H
theorem sl_str {X : Cx} : SlR X rSlS := by
  intro pins s σ H x v vl vu lo hi sl Q I rx hs pl pu h
  obtain ⟨z, j, rfl, rfl, rfl, hz, q⟩ := h
  obtain ⟨t, rfl⟩ := rx
  cases pl
  cases pu
  rename_i uj
  exact ⟨"str", _, PySem.F.slot_str_getitem.lookup, typeIs_str _ _ _, wpAny_getItem_str_slice (l := none) (u := some (j, uj)) (st := none) hs rfl (post_val_or_str ⟨Nat.le_trans (Txt.slice_le z _ _) hz, fun t' k => ⟨.str _, H, I.tok k, ⟨_, rfl⟩, q⟩⟩)⟩
theorem cut_colon : ∀ n : Nat, n < 100 → Txt.slice (numT n ++ sg 58) none (some (-1)) = numT n := by decide +kernel
end L2

set_option Elab.async false
set_option linter.all false
set_option maxRecDepth 100000
set_option maxHeartbeats 4000000
namespace L2
open PySem PySem.Spec PyProof.Rows
/-! ### a comprehension whose element may refuse -/
/-- an exception on its way, its last station marked by fl -/
def AirV (fl : Value) (h0 : Heap) (H : Hp) (h : Heap) (a : Addr) (cls : Value) : Prop := ∃ oe vs T oT ts a0, h.get? a = some oe ∧ (oe.cls = cls ∧ vs[0]? = some a0) ∧ oe.data = .fields vs ∧ vs[1]? = some (.ref T) ∧ T ≠ a ∧ h.get? T = some oT ∧ oT.data = .fields ts ∧ ts[3]? = some fl ∧
  (H a = none ∧ h0.get? a = none) ∧ (H T = none ∧ h0.get? T = none)
structure FlV (fl : Value) (X : Cx) (pins : List (Addr × Obj)) (σ : St) (H : Hp) (s : Shared) (h0 : Heap) (a : Addr) (cls : Value) : Prop where
  inv : Inv X pins σ H s
  air : AirV fl h0 H s.heap a cls
  new : ∀ z, h0.get? z = none → X.s₀.heap.get? z = none ∧ z ≠ X.env.locals ∧ (∀ x c, X.env.cells.lookup x = some c → c ≠ z) ∧ ∀ p ∈ X.pn ++ pins, p.1 ≠ z
  sub : ∀ b o, h0.get? b = some o → ∃ o', s.heap.get? b = some o'
section
variable {X : Cx} {pins : List (Addr × Obj)} {σ : St} {H : Hp} {s : Shared} {h0 : Heap} {a : Addr} {cls fl : Value}
theorem Flies.v (F : Flies X pins σ H s h0 a cls) : FlV .none X pins σ H s h0 a cls := ⟨F.inv, F.air, F.new, F.sub⟩
theorem FlV.flies (F : FlV .none X pins σ H s h0 a cls) : Flies X pins σ H s h0 a cls := ⟨F.inv, F.air, F.new, F.sub⟩
theorem AirV.fly {base h : Heap} {l : List Env} (A : AirV fl h0 H h a cls) (hf : h.FunFrames base l) : ∃ T a0, (H T = none ∧ h0.get? T = none) ∧ (H a = none ∧ h0.get? a = none) ∧ (PySem.W.hideAll h (a :: T :: frs l)).StaysIn h ∧ (PySem.W.hideAll h (a :: T :: frs l)).get? a = none ∧ h.FunFrames (PySem.W.hideAll h (a :: T :: frs l)) l ∧ h.TracedAtW (PySem.W.hideAll h (a :: T :: frs l)) a cls a0 fl := by
  obtain ⟨oe, vs, T, oT, ts, a0, he, hc, hd, h1, hTe, hTT, hTd, h3, ha, hT⟩ := A
  exact ⟨T, a0, hT, ha, fun b o e => PySem.W.of_hideAll _ e, PySem.W.hideAll_none _ (List.mem_cons_self), PySem.W.funFrames_hide hf fun env he b hb => List.mem_cons_of_mem _ (List.mem_cons_of_mem _ (frame_mem he hb)), oe, vs, T, oT, ts, he, hc, hd, h1, PySem.W.hideAll_none _ (List.mem_cons_of_mem _ List.mem_cons_self), hTe, hTT, hTd, h3⟩
theorem FlV.next {fl' : Value} {h' B : Heap} {T : Addr} {a0 : Value} (F : FlV fl X pins σ H s h0 a cls) (hex : X.ex = []) (hT : H T = none ∧ h0.get? T = none) (ha : H a = none ∧ h0.get? a = none) (hBe : B = PySem.W.hideAll s.heap (a :: T :: frs X.stack))
    (st : B.StaysIn h') (G : h'.TracedAtW B a cls a0 fl') (u : s.heap.UpToSlots h') : FlV fl' X pins σ H { s with heap := h' } h0 a cls := by
  subst hBe
  have hZ : ∀ z ∈ [a, T], H z = none ∧ h0.get? z = none := fun z hz => by
    rcases List.mem_cons.mp hz with r | r
    · rw [r]; exact ha
    · rw [List.mem_singleton.mp r]; exact hT
  have keep : ∀ b o, s.heap.get? b = some o → b ∉ [a, T] → b ∉ frs X.stack → h'.get? b = some o := fun b o e h1 h2 => by
    refine st b o (PySem.W.hideAll_get _ e fun z => ?_)
    rcases List.mem_cons.mp z with r | r
    · exact h1 (by simp [r])
    · rcases List.mem_cons.mp r with r | r
      · exact h1 (by simp [r])
      · exact h2 r
  have slots : ∀ b o, s.heap.get? b = some o → b ∈ frs X.stack → ∃ sl, h'.get? b = some { o with slots := sl } := fun b o e hb => by
    obtain ⟨_, o', ho, hnf⟩ := F.inv.stack.mem hb
    rw [e] at ho; cases ho
    exact u b o e hnf
  refine ⟨F.inv.flown hex (Z := [a, T]) (fun z hz => ⟨(hZ z hz).1, F.new z (hZ z hz).2⟩) keep slots, ?_, F.new, fun b o e => ?_⟩
  · obtain ⟨oe, vs, T', oT, ts, he, hc, hd, h1, hn, hTe, hTT, hTd, h3⟩ := G
    refine ⟨oe, vs, T', oT, ts, a0, he, hc, hd, h1, hTe, hTT, hTd, h3, ha, ?_⟩
    rcases hide_none hn with r | r
    · refine ⟨F.inv.hok.none_of r, ?_⟩
      cases q : h0.get? T' with
      | none => rfl
      | some o =>
        obtain ⟨o', e⟩ := F.sub T' o q
        rw [r] at e; cases e
    · rcases List.mem_cons.mp r with r | r
      · exact absurd r hTe
      · rcases List.mem_cons.mp r with r | r
        · rw [r]; exact hT
        · obtain ⟨_, o, ho, hnf⟩ := F.inv.stack.mem r
          obtain ⟨sl, e⟩ := slots T' o ho r
          rw [hTT] at e
          cases e
          exact absurd hTd (hnf ts)
  · obtain ⟨o', e'⟩ := F.sub b o e
    by_cases hb : b ∈ frs X.stack
    · obtain ⟨sl, q⟩ := slots b o' e' hb
      exact ⟨_, q⟩
    · refine ⟨o', keep b o' e' (fun z => ?_) hb⟩
      rw [(hZ b z).2] at e; cases e
/-- a thing that is none of ours is changed -/
theorem FlV.but {h' : Heap} {C : Addr} {m : Str → Option Value} (F : FlV fl X pins σ H s h0 a cls) (hn : s.heap.Ns C m) (hC : h0.get? C = none) (hs : Heap.SameBut C s.heap h') (I : Inv X pins σ H { s with heap := h' }) : FlV fl X pins σ H { s with heap := h' } h0 a cls := by
  obtain ⟨oC, es, ep, hoC, hdC, _⟩ := hn
  obtain ⟨oe, vs, T, oT, ts, a0, he, hc, hd, h1, hTe, hTT, hTd, h3, ha, hT⟩ := F.air
  have na : a ≠ C := by rintro rfl; rw [hoC] at he; cases he; rw [hdC] at hd; cases hd
  have nT : T ≠ C := by rintro rfl; rw [hoC] at hTT; cases hTT; rw [hdC] at hTd; cases hTd
  refine ⟨I, ⟨oe, vs, T, oT, ts, a0, (hs.2 a na).trans he, hc, hd, h1, hTe, (hs.2 T nT).trans hTT, hTd, h3, ha, hT⟩, F.new, fun b o e => ?_⟩
  obtain ⟨o', e'⟩ := F.sub b o e
  exact ⟨o', (hs.2 b (by rintro rfl; rw [hC] at e; cases e)).trans e'⟩
/-- passed on at a frame -/
theorem FlV.passOn {M : Model} {A : Around} {E : Value → Shared → Prop} {what : String} {L : Addr} {ce : Env} {Q : Value → Shared → Prop} (F : FlV fl X pins σ H s h0 a cls) (hex : X.ex = []) (hc : ce.frame = some L)
    (k : ∀ h', FlV (rawInt L) X pins σ H { s with heap := h' } h0 a cls → E (.ref a) { s with heap := h' }) : wpAny M A (PySem.passOn what (.ref a) ce : Sem Value) Q E s := by
  obtain ⟨T, a0, hT, ha, k1, k2, k3, oe, vs, T', oT, ts, he, hcl, hd, h1, hn, hTe, hTT, hTd, h3⟩ := F.air.fly F.inv.stack
  have hsz3 : 3 < ts.size := (Array.getElem?_eq_some_iff.mp h3).1
  unfold PySem.passOn
  refine wpAny_bind (wpAny_field he hd h1 ?_)
  rw [if_neg (show ¬ ((Value.ref T' == Value.none) = true) from by simp)]
  unfold setFlight
  rw [hc]
  refine wpAny_bind (wpAny_bind (wpAny_field he hd h1 ?_))
  rw [if_pos (show (Value.ref T' != Value.none) = true from by simp)]
  refine wpAny_setField hTT hTd hsz3 (wpAny_throw (k _ ?_))
  have other : ∀ b, b ≠ T' → (s.heap.update T' (Obj.mapFields (·.setIfInBounds 3 ((some L).elim Value.none fun f => rawInt f)))).get? b = s.heap.get? b := fun b hb => Heap.get?_update_other _ _ (Ne.symm hb)
  refine F.next (a0 := a0) hex hT ha rfl (fun b o hbo => (other b fun q => by rw [q, hn] at hbo; cases hbo).trans (k1 b o hbo)) ⟨oe, vs, T', _, _, (other a (Ne.symm hTe)).trans he, hcl, hd, h1, hn, hTe, Heap.get?_update_self _ hTT (Obj.isFreed_of_fields (Obj.data_mapFields hTd _)), Obj.data_mapFields hTd _, by simp [hsz3]⟩ fun b o e hnf => ?_
  exact ⟨o.slots, (other b fun q => by rw [q, hTT] at e; cases e; exact hnf ts hTd).trans e⟩
end
/-- an exception that is held at this frame leaves -/
def PassH (X : Cx) (W : XK) : Prop := ∀ (pins : List (Addr × Obj)) (σ : St) (H : Hp) (s : Shared) (h0 : Heap) (a : Addr) (cls : Value), FlV (rawInt X.env.locals) X pins σ H s h0 a cls → W cls none H → X.xe (.ref a) s
theorem passH {P : Program} {w : World} {K : PySem.W.Frag} {mg : Str → Option Value} {base : Heap} {N : List Str} {qual : Str} {scope : Scope} {f : Addr} {cd : Value} {A : Around} {outer : List Env} {s₀ : Shared} {H₀ : Hp} {E : XK} :
    PassH (cxOf (cxE P w) P w K mg base N qual scope f cd A outer s₀ H₀ E) E := by
  intro pins σ H s h0 a cls F q
  obtain ⟨T, a0, hT, ha, k1, k2, k3, k4⟩ := F.air.fly F.inv.stack
  show wpAny _ _ (leaving _ _) _ _ _
  unfold leaving
  refine wpAny_bind (wpAny_noteFrame_againW (L := (cxOf (cxE P w) P w K mg base N qual scope f cd A outer s₀ H₀ E).env.locals) rfl k4 ?_)
  refine wpAny_landsW ⟨k1, k2, k3, k4⟩ fun h' G u => ?_
  exact (F.next rfl hT ha rfl G.1 G.2.2.2 u).flies.out rfl rfl rfl rfl rfl rfl q

/-- behind the block: what is asked of the store, or of the exception -/
def endX (M : Model) (A : Around) (E : Value → Shared → Prop) (u : Value → Sem Unit) (Q : Shared → Prop) (acc : Value) (ce : Env) : Result → Shared → Prop
  | .ok _, s' => wpAny M A (u acc) (fun _ s2 => ∃ m, s2.heap.Ns ce.locals m ∧ ∀ h', Heap.SameBut ce.locals s2.heap h' → Q { s2 with heap := h' }) E s'
  | .error x, s' => ∃ m, s'.heap.Ns ce.locals m ∧ ∀ h', Heap.SameBut ce.locals s'.heap h' → ∀ c2 : Env, c2.frame = ce.frame → wpAny M A (passOn "comprehension.variables-let-go" x c2 : Sem Value) (fun _ _ => False) E { s' with heap := h' }
section
variable {M : Model} {A : Around} {E : Value → Shared → Prop} {s : Shared} {env : Env}
theorem comprehensionX {e : Expr} {scope : Scope} {pos : Pos} {newAcc first : Sem Value} {g : Comprehension} {gs : List Comprehension} {cl : List (Str × Addr)} {u : Value → Sem Unit} {Q : Shared → Prop}
    (hcl : clausesOf e = g :: gs) (hs : ∀ x, foldedSetIterable g.iter env x = pure x) (hclos : closureFor scope env = pure cl) (hkind : scope.kind = .function) (hloc : ∀ x ∈ scope.names, x.2 = .local → scope.names.lookup x.1 = some .local)
    (h : wpAny M A first (fun x s1 => wpAny M A (pyIter x) (fun it s2 => wpAny M A newAcc (fun acc s3 => wpAny M A (newFunctionEnv scope env.globals cl [] env.qual none .none (some env)) (fun ce s4 =>
        codeAny M A (.compStart e 0 it acc { ce with scope := relabel scope env }) (endX M A E u Q acc ce) s4) E s3) E s2) E s1) E s) :
    wpAny M A (comprehension e scope env pos newAcc false first (some u)) (fun _ s' => Q s') E s := by
  unfold comprehension
  rw [hclos, hcl]
  refine wpAny_bind (thn h fun x s1 h1 => wpAny_bind (wpAny_standAt (wpAny_bind (wpAny_of_eq (hs x) (wpAny_bind (wpAny_holding (thn h1 fun it s2 h2 => wpAny_standIf (wpAny_bind (thn h2 fun acc s3 h3 => wpAny_bind (wpAny_pure (wpAny_bind (thn h3 fun ce s4 h4 => ?_))))))))))))
  dsimp only
  have own : ∀ vs : List (Str × NameKind), (∀ x ∈ vs, x ∈ scope.names) → ∀ x ∈ vs, x.2 = .local → Env.kindOf { ce with scope := relabel scope env } x.1 = some .local := fun vs hv x hx hl => lookup_relabel_local (hloc x (hv x hx) hl)
  have sub : ∀ x ∈ (scope.names.filter fun x => (x.2 == .local || x.2 == .cell) && x.1 != (".0" : Str)).reverse, x ∈ scope.names := fun x hx => (List.mem_filter.mp (List.mem_reverse.mp hx)).1
  refine wpAny_holding (wpAny_bind (wpAny_attempt (wpAny_holding (wpAny_run (codeAny_mono h4 fun r s' hr => ?_)))))
  cases r with
  | ok f =>
    refine wpAny_bind (wpAny_rule (wpAny_bind (wpAny_holding (thn hr fun _ s2 ⟨m, hn, hr2⟩ => ?_))))
    refine wpAny_bind (wpAny_comp_letGo (cenv := { ce with scope := relabel scope env }) hkind _ s2 m (own _ fun x hx => ?_) hn fun h' m' _ hs' => wpAny_pure (hr2 h' hs'))
    rcases List.mem_append.mp hx with q | q
    · exact sub x (List.mem_of_mem_drop q)
    · exact sub x (List.mem_of_mem_take q)
  | error x =>
    obtain ⟨m, hn, hr⟩ := hr
    exact wpAny_bind (wpAny_holding (wpAny_comp_letGo (cenv := { ce with scope := relabel scope env }) hkind _ s' m (own _ sub) hn fun h' m' _ hs' => wpAny_mono (hr h' hs' _ rfl) (fun _ _ f => f.elim) fun _ _ y => y))
end

/-- the exceptions of a block's turns -/
def XIn (Xi : Cx) (W : XK) (e : Value) (s' : Shared) : Prop := ∃ (a : Addr) (cls : Value) (H' : Hp), e = .ref a ∧ (∃ pi σ', Inv Xi pi σ' H' s') ∧ Air Xi.s₀.heap H' s'.heap a cls ∧ (∀ b o, Xi.s₀.heap.get? b = some o → ∃ o', s'.heap.get? b = some o') ∧ W cls none H'
theorem xin_passes {Xi : Cx} {W : XK} {pins : List (Addr × Obj)} (hp : ∀ b ∈ Xi.ex, ∃ o, (b, o) ∈ pins) : PassesS (cxE Xi.prog Xi.w) (Xi.bear pins (XIn Xi W)) (fun _ => W) := by
  intro pins' σ H s e s' I h
  obtain ⟨a, cls, H', rfl, os, bare, un, hok, air, q⟩ := h
  have sub1 : ∀ b o, Xi.s₀.heap.get? b = some o → ∃ o', s.heap.get? b = some o' := fun b o e => by
    by_cases hb : b ∈ Xi.ex
    · obtain ⟨o', z⟩ := hp b hb
      exact ⟨o', (I.pin (b, o') (List.mem_append_left _ (List.mem_append_right _ z))).1⟩
    · exact I.base.there b o e hb
  have new : ∀ b, s.heap.get? b = none → Xi.s₀.heap.get? b = none := fun b e => by
    cases q : Xi.s₀.heap.get? b with
    | none => rfl
    | some o => obtain ⟨o', z⟩ := sub1 b o q; rw [e] at z; cases z
  have I' := I.call' (ch := []) os un hok bare (fun b z => nomatch z)
  obtain ⟨oe, vs, T, oT, ts, a0, he, hc, hd, h1, hTe, hTT, hTd, h3, ha, hT⟩ := air
  exact ⟨a, cls, H', rfl, ⟨_, _, I'.unbear⟩, ⟨oe, vs, T, oT, ts, a0, he, hc, hd, h1, hTe, hTT, hTd, h3, ⟨ha.1, new a ha.2⟩, hT.1, new T hT.2⟩, fun b o e => let ⟨o1, e1⟩ := sub1 b o e; un.there b o1 e1 (by simp), q⟩
theorem comp_loopX {Xi : Cx} {Wx : XK} {tg elt iter : Expr} {ifs : List Expr} {scope : Scope} {pos : Pos} {it D : Addr} {fp : List Addr} {tn : Nat → Heap → Prop} {J : It} {W : Nat → Nat → St → Hp → Prop} {R : Result → Shared → Prop} {s : Shared} {g : TG} {tc : TT} {te : TE} {Fin : Hp → Prop}
    (hx : Xi.xe = fun _ _ => False) (hcalm : Xi.calm = true) (T : Turn Xi.prog Xi.w Xi.K tg J fp it tn) (hg : PG Xi tg g) (hc : PIfs Xi ifs tc) (hfp : Xi.ex = fp) (he : ∀ (pins : List (Addr × Obj)) (E' : Value → Shared → Prop), PassesS (cxE Xi.prog Xi.w) (Xi.bear pins E') (fun _ => Wx) → PE (Xi.bear pins E') elt te) (err : ∀ e s', XIn Xi Wx e s' → notedBy (model Xi.prog Xi.w) Xi.A Xi.env (fun x s2 => R (.error x) s2) e s')
    (stat : ∀ {H' : Hp}, (∀ b ∈ fp, H' b = none) → ∀ b ∈ fp, FpOk Xi [] H' b)
    (turn : ∀ i m σ' H', W i m σ' H' → (J.stop i H' ∧ Fin H') ∨ (J.go i H' ∧ ∀ x H2, J.yld i H' x H2 → g x σ' H2 fun σ2 H3 => tc σ2 H3 fun b H4 =>
      if b = true then te σ2 H4 fun y H5 => ∃ ys, H5 D = some (.lst ys) ∧ ys.length < sizeLine ∧ ∃ m', m' < m ∧ W (i + 1) m' σ2 (upd H5 D (.lst (ys ++ [y]))) else ∃ m', m' < m ∧ W (i + 1) m' σ2 H4))
    (fin : ∀ σ' H' s', Inv Xi [] σ' H' s' → Fin H' → R (.ok .next) s') (i m : Nat) (σ : St) (H : Hp) (I : Inv Xi [] σ H s) (st : tn i s.heap) (fr : ∀ b ∈ fp, H b = none) (w : W i m σ H) :
    codeAny (model Xi.prog Xi.w) Xi.A (.compLoop (.ListComp elt [⟨tg, iter, ifs, 0⟩] scope pos) 0 (.ref it) (.ref D) Xi.env) R s := by
  refine codeAny_loop rfl (fun n s' => ∃ i σ' H', Inv Xi [] σ' H' s' ∧ tn i s'.heap ∧ (∀ b ∈ fp, H' b = none) ∧ W i n σ' H') (fun n s3 hI => ?_) m ⟨i, σ, H, I, st, fr, w⟩
  show wpAny _ Xi.A ((compTurn (.ListComp elt [⟨tg, iter, ifs, 0⟩] scope pos) 0 (.ref it) (.ref D) Xi.env).onRaise (fun x => do noteFrame x Xi.env; theTreesLotGoes x)) _ _ s3
  refine wpAny_noted ?_
  rw [compTurn_list]
  obtain ⟨i, σ3, H3, I3, st3, fr3, w3⟩ := hI
  have noE : ∀ {E' : Value → Shared → Prop} e s', Xi.xe e s' → E' e s' := fun e s' f => by rw [hx] at f; exact f.elim
  refine wpAny_bind (wpAny_standAt (wpAny_bind ?_))
  rcases turn i n σ3 H3 w3 with ⟨stop, qf⟩ | ⟨go, step⟩
  · refine thn (T.done Xi rfl rfl rfl hcalm i [] s3 σ3 H3 _ I3 (stat fr3) st3 stop) fun r s4 ⟨hr, I4⟩ => ?_
    subst hr
    exact wpAny_pure (fin σ3 H3 s4 I4 qf)
  · refine thn (T.item Xi rfl rfl rfl hcalm i [] s3 σ3 H3 _ I3 (stat fr3) st3 go) fun r s4 ⟨u, hr, h4⟩ => ?_
    subst hr
    refine wpAny_bind (thn h4 fun _ s5 ⟨x, H5, I5, r5, y5, st5, fr5⟩ => ?_)
    have I5' := I5.pinned (stat fr5) (T.obj _ _ st5)
    refine wpAny_bind (wpAny_mono (hg _ s5 σ3 H5 x u _ I5' r5 (step x H5 y5)) (fun _ s6 ⟨σ6, H6, I6, q6⟩ => ?_) noE)
    refine wpAny_bind (wpAny_mono (hc _ s6 σ6 H6 _ I6 q6) (fun ok s7 ⟨H7, I7, q7⟩ => ?_) noE)
    have again : ∀ {s8 : Shared} {H8 : Hp}, Inv Xi ([] ++ pinsAt fp s5.heap) σ6 H8 s8 → (∃ m', m' < n ∧ W (i + 1) m' σ6 H8) → ∃ m, m < n ∧ ∃ i σ' H', Inv Xi [] σ' H' s8 ∧ tn i s8.heap ∧ (∀ b ∈ fp, H' b = none) ∧ W i m σ' H' := fun {s8 H8} I8 n8 => by
      obtain ⟨m', hm, w8⟩ := n8
      refine ⟨m', hm, i + 1, σ6, H8, I8.unpinned, T.keep _ _ _ st5 fun b hb o e => (I8.pin (b, o) (List.mem_append_right _ (List.mem_append_right _ (mem_pinsAt hb e)))).1, fun b hb => ?_, w8⟩
      obtain ⟨o, e, d⟩ := T.obj _ _ st5 b hb
      exact (I8.pin (b, o) (List.mem_append_right _ (List.mem_append_right _ (mem_pinsAt hb e)))).2.1
    cases ok with
    | false => exact wpAny_pure ⟨rfl, again I7 q7⟩
    | true =>
      refine wpAny_bind (wpAny_bind (wpAny_mono (he (pinsAt fp s5.heap) (XIn Xi Wx) (xin_passes fun b hb => ?_) [] s7 σ6 H7 _ (I7.bear _) q7) (fun y s8 ⟨vy, H8, I8', r8, ys, e8, z8, q8⟩ => ?_) (fun e s' q => err e s' q)))
      · rw [hfp] at hb
        obtain ⟨o, e, _⟩ := T.obj _ _ st5 b hb
        exact ⟨o, mem_pinsAt hb e⟩
      have I8 : Inv Xi ([] ++ pinsAt fp s5.heap) σ6 H8 s8 := I8'.unbear
      refine wpAny_bind (wpAny_mono (mt_append _ s8 σ6 H8 (.ref D) [vy] (.ref D) [y] (fun _ H9 => ∃ m', m' < n ∧ W (i + 1) m' σ6 H9) I8 rfl (.cons r8 .nil) ⟨D, ys, vy, rfl, rfl, e8, z8, q8⟩) (fun _ s9 ⟨_, H9, I9, _, q9⟩ => ?_) noE)
      exact wpAny_pure (wpAny_pure ⟨rfl, again I9 q9⟩)


section
variable {X : Cx} {tg iter elt : Expr} {ifs : List Expr} {scope : Scope} {pos : Pos} {N' : List Str} {nt : Nat} {fi : List Nat} {wi : TI} {g : TG} {tc : TT} {te : TE} {Wx : XK}
/-- name = [comprehension], whose element may refuse -/
theorem ps_setCX {i : Nat} {y : Str} {py spos : Pos} (hex : X.ex = []) (hstk : X.stack = X.env :: X.outer) (hfr : X.env.frame = some X.env.locals) (hP : PassH X Wx) (hN : X.N.Nodup) (hi' : X.N[i]? = some y) (hy : X.env.scope.names.lookup y = some .local) (S : CompSc X.N X.env.scope N' nt fi scope) (hcalm : X.calm = true) (hi : PI X tg iter wi)
    (hg : ∀ C s H fp, PG (cxIn X N' scope C s H fp) tg g) (hc : ∀ C s H fp, PIfs (cxIn X N' scope C s H fp) ifs tc)
    (he : ∀ C s H fp pins E', PassesS (cxE X.prog X.w) ((cxIn X N' scope C s H fp).bear pins E') (fun _ => Wx) → PE ((cxIn X N' scope C s H fp).bear pins E') elt te)
    (hs : ∀ x, foldedSetIterable iter X.env x = pure x := by intro _; rfl)
    (hsw : swapsWith (.ListComp elt [⟨tg, iter, ifs, 0⟩] scope pos) (some (.Name y py)) spos.line X.env = pure true := by rfl) :
    PS X (.Assign [.Name y py] (.ListComp elt [⟨tg, iter, ifs, 0⟩] scope pos) spos) (tAsg (tComp wi nt fi g tc te) (gName i)) := by
  intro pins s σ H D I h
  rw [exec_Assign_Name_used _ _ _ _ hsw]
  refine wpAny_bind (wpAny_standAt (wpAny_bind ?_))
  show wpAny _ X.A (do let _ ← comprehension (.ListComp elt [⟨tg, iter, ifs, 0⟩] scope pos) scope X.env _ (newList []) false (eval iter X.env) (some (assign (.Name y py) X.env))) _ _ s
  refine wpAny_bind (wpAny_mono (comprehensionX (u := assign (.Name y py) X.env) (Q := fun s' => SP X pins D .next s') rfl hs (closureFor_free fun y hy hf => I.ok.has y.1 (S.free y hy hf)) S.kind S.loc (thn (hi pins s σ H _ I h) fun v s1 h1 => thn h1 fun itv s2 h2 => ?_)) (fun _ s' hq => wpAny_pure (wpAny_pure hq)) fun _ _ e => e)
  obtain ⟨it, fp, tn, J, H2, e, I2, T, st2, f2, q⟩ := h2
  subst e
  refine wpAny_newObj_type (wpAny_newFunctionEnv S.nocell (by intro y hy; simp at hy) (fun h₁ hns₁ hsb₁ => ?_) S.kind)
  dsimp only at hns₁ hsb₁ ⊢
  generalize hH2 : s2.heap.push { cls := .type "list", dict := none, data := .seq ([] : List Value).toArray } = HH at hns₁ hsb₁ ⊢
  have hC : HH.objs.size = s2.heap.objs.size + 1 := by rw [← hH2, Heap.size_push]
  have hDC : s2.heap.objs.size ≠ HH.objs.size := by rw [hC]; exact Nat.ne_of_lt (Nat.lt_succ_self _)
  have hCle : s2.heap.objs.size ≤ HH.objs.size := by rw [hC]; exact Nat.le_succ _
  have old : ∀ b o, s2.heap.get? b = some o → h₁.get? b = some o := fun b o e =>
    hsb₁.extBut b o (by rw [hC]; exact Nat.ne_of_lt (Nat.lt_succ_of_lt (Heap.lt_size e))) (Heap.get?_push_of_some _ (hH2 ▸ Heap.get?_push_of_some _ e))
  have hacc : h₁.get? s2.heap.objs.size = some { cls := .type "list", data := .seq ([] : List Value).toArray 0 } := hsb₁.extBut _ _ hDC (Heap.get?_push_of_some _ (hH2 ▸ Heap.get?_push_size _ rfl))
  obtain ⟨W, ⟨m0, w0⟩, turn⟩ := q s2.heap.objs.size I2.fresh
  have J0 := in_start (tk := s2.toks + ([] : List (Str × Value)).length) I2 S f2 (fun b hb => let ⟨o, e, _⟩ := T.obj 0 _ st2 b hb; ⟨o, e⟩) (Nat.le_refl _) hCle hDC old hns₁ hacc
  have t0 : tn 0 h₁ := T.keep _ _ _ st2 fun b _ o e => old b o e
  have fr0 : ∀ b ∈ fp, upd H2 s2.heap.objs.size (.lst []) b = none := fun b hb => by
    obtain ⟨o, e, _⟩ := T.obj 0 _ st2 b hb
    rw [upd_ne (Nat.ne_of_lt (Heap.lt_size e))]
    exact (f2 b hb).1
  have stat : ∀ {H' : Hp}, (∀ b ∈ fp, H' b = none) → ∀ b ∈ fp, FpOk (cxIn X N' scope HH.objs.size s2 H2 fp) [] H' b := fun {H'} hn b hb => by
    have z := J0.ok.exf b hb
    exact ⟨hn b hb, z.1, J0.ok.exfs b hb, .inl hb, z.2, fun p hp => (nomatch hp)⟩
  have loop := comp_loopX (Xi := cxIn X N' scope HH.objs.size s2 H2 fp) (Wx := Wx) (iter := iter) (scope := scope) (pos := pos) (R := endX (model X.prog X.w) X.A X.xe (assign (.Name y py) X.env) (fun s' => SP X pins D .next s') (.ref s2.heap.objs.size) (cxIn X N' scope HH.objs.size s2 H2 fp).env) (s := { s2 with heap := h₁, toks := s2.toks + ([] : List (Str × Value)).length })
    (Fin := fun H' => gName i (.ref s2.heap.objs.size) σ H' D.nx) rfl hcalm T (hg _ _ _ _) (hc _ _ _ _) rfl (he _ _ _ _) (fun e s8 x8 => ?_) stat turn (fun σ' H' s' J' q' => ?_) 0 m0 _ _ J0 t0 fr0 w0
  · exact codeAny_compStart_list loop (T.self _ 0 _ _ _ t0 loop)
  · obtain ⟨a, cls, H8, rfl, ⟨pi, σ8, J8⟩, air, sub, wx⟩ := x8
    have I8 : Inv X pins σ H8 s8 := in_end I2 f2 J8 hCle (.refl ..)
    obtain ⟨m8, hn8, _⟩ := J8.loc
    have hcl : FpOk X pins H8 HH.objs.size := I2.fpOk hCle J8.free
    have F : Flies X pins σ H8 s8 s2.heap a cls := ⟨I8, air, fun z hz => I2.newZ hex hz, sub⟩
    obtain ⟨T8, a0, hT, ha, G⟩ := F.air.fly F.inv.stack
    have hfs := F.inv.ok.frames
    rw [hstk] at hfs
    have G1 := G
    rw [hstk] at G1
    show wpAny _ X.A (noteFrame (.ref a) X.env) _ _ s8
    refine wpAny_looks_onW hfs hfr G1 fun h4 held u4 => ?_
    have F4 : FlV (rawInt X.env.locals) X pins σ H8 { s8 with heap := h4 } s2.heap a cls := F.v.next hex hT ha (by rw [hstk]) held.1 held.2.2.2 u4
    obtain ⟨oC, es, ep, hoC, hdC, rC⟩ := hn8
    have nCf : HH.objs.size ∉ frs X.stack := fun z => by
      rcases List.mem_cons.mp (I8.stkSub _ z) with r | r
      · exact hcl.2.1 r
      · exact hcl.2.2.1 r
    have hn4 : h4.Ns HH.objs.size m8 := by
      obtain ⟨sl, q⟩ := u4 _ oC hoC fun vs z => by rw [hdC] at z; cases z
      exact ⟨_, es, ep, q, hdC, rC⟩
    have C0 : s2.heap.get? HH.objs.size = none := by
      cases q : s2.heap.get? HH.objs.size with
      | none => rfl
      | some o => exact absurd (Nat.lt_of_lt_of_le (Heap.lt_size q) hCle) (Nat.lt_irrefl _)
    refine ⟨m8, hn4, fun h' hsb c2 hc2 => ?_⟩
    obtain ⟨c0, c1, c2', c3, c4, c5⟩ := hcl
    have F5 := F4.but hn4 C0 hsb (F4.inv.turned (t' := s8.toks) (fun b o hb e => (hsb.2 b hb).trans e) c0 c1 c3 c4 c5)
    refine F5.passOn hex (hc2.trans hfr) fun h6 F6 => hP pins σ H8 _ _ a cls F6 wx
  · obtain ⟨m', hn', _⟩ := J'.loc
    have hCL : FpOk X pins H' HH.objs.size := I2.fpOk hCle J'.free
    have I' : Inv X pins σ H' s' := in_end I2 f2 J' hCle (.refl ..)
    show wpAny _ X.A (assign (.Name y py) X.env (.ref s2.heap.objs.size)) _ _ _
    refine wpAny_assign_Name (store_ok2 I' hN hi' (.inl hy) (v := .ref s2.heap.objs.size) rfl (fun s'' I'' hsb => ?_) (.inr hy))
    obtain ⟨a, sb, ha⟩ := hsb
    obtain ⟨c0, c1, c2, c3, c4, c5⟩ := hCL
    have ne : HH.objs.size ≠ a := by
      rcases ha with z | z
      · rw [z]; exact c1
      · exact Ne.symm (c4 y a z)
    exact ⟨m', hn'.sameBut sb ne, fun h' hs' => ⟨_, H', I''.turned (t' := s''.toks) (fun b o hb e => (hs'.2 b hb).trans e) c0 c1 c3 c4 c5, q'⟩⟩
end
end L2

set_option Elab.async false
set_option linter.all false
set_option maxRecDepth 100000
set_option maxHeartbeats 4000000
namespace L2
open PySem PySem.Spec PyProof.Rows
/-! ### any text cut at a sign -/
theorem split_cons (z : Str) (c : Nat) : ∃ p r, Txt.split z (sg c) = p :: r ∧ z.cps.toList = p.cps.toList ++ r.flatMap (fun y => c :: y.cps.toList) := by
  have h := split_ne z c
  cases e : Txt.split z (sg c) with
  | nil => exact absurd e h
  | cons p r =>
    refine ⟨p, r, rfl, ?_⟩
    rw [← join_toList, ← e]
    exact congrArg (fun s : Str => s.cps.toList) (StrLaws.join_split z (sg c)).symm
theorem flat_len (c : Nat) : ∀ r : List Str, r.length ≤ (r.flatMap (fun y => c :: y.cps.toList)).length
  | [] => by simp
  | y :: r => by
    have := flat_len c r
    rw [List.flatMap_cons, List.length_append, List.length_cons, List.length_cons]; omega
theorem split_cnt (z : Str) (c : Nat) : (Txt.split z (sg c)).length ≤ z.length + 1 := by
  obtain ⟨p, r, e, h⟩ := split_cons z c
  have h1 := congrArg List.length h
  have h2 := flat_len c r
  rw [List.length_append, ← str_len] at h1
  rw [e, List.length_cons]; omega
theorem split_mem {z p : Str} {c x : Nat} (hp : p ∈ Txt.split z (sg c)) (hx : x ∈ p.cps.toList) : x ∈ z.cps.toList := by
  obtain ⟨q, r, e, h⟩ := split_cons z c
  rw [e] at hp
  rw [h]
  rcases List.mem_cons.mp hp with rfl | hp
  · exact List.mem_append_left _ hx
  · exact List.mem_append_right _ (List.mem_flatMap.mpr ⟨p, hp, List.mem_cons_of_mem _ hx⟩)
/-- a text that writes no quay and row -/
def BadN (z : Str) : Prop := ∀ (n : Nat) (ms : List Nat), n < 100 → (∀ m ∈ ms, m < 100) → z ≠ TX n ms
def Asc (z : Str) : Prop := ∀ c ∈ z.cps.toList, c < 128
theorem note_of {z a b : Str} {n : Nat} {ws : List Str} {ms : List Nat} (h1 : Txt.split z (sg 58) = [a, b]) (h2 : Txt.split b (sg 32) = Str.empty :: ws) (ha : a = numT n) (hw : ws = ms.map numT) : z = TX n ms := by
  rw [TX_colon, ← ha, ← hw, ← h2, StrLaws.join_split, ← h1, StrLaws.join_split]
theorem nums_of : ∀ {ws : List Str}, (∀ x ∈ ws, ∃ n, n < 100 ∧ x = numT n) → ∃ ms : List Nat, ws = ms.map numT ∧ ∀ m ∈ ms, m < 100
  | [], _ => ⟨[], rfl, fun _ h => nomatch h⟩
  | x :: ws, h => by
    obtain ⟨n, hn, e⟩ := h x List.mem_cons_self
    obtain ⟨ms, e2, h2⟩ := nums_of (ws := ws) fun y hy => h y (List.mem_cons_of_mem _ hy)
    exact ⟨n :: ms, by rw [List.map_cons, ← e, ← e2], fun m hm => by
      rcases List.mem_cons.mp hm with rfl | hm
      · exact hn
      · exact h2 m hm⟩
/-- a comprehension over a list at one of whose places it stops -/
theorem comp_listE {K : PySem.W.Frag} {a : Addr} {xs : List V} {rest : St} {te : TE} {p : Addr} {H : Hp} {Q : VK} {σ0 : St} {j : Nat} {x0 : V} (F : V → V) (hn : xs.length ≤ 1001) (hS : SqL K H a xs) (hp : H p = none) (h0 : ∃ t, σ0 = t :: rest) (hj : xs[j]? = some x0)
    (he : ∀ x H' (R : VK), x ∈ xs → Same H H' → (∀ H2, Same H' H2 → R (F x) H2) → te (some x :: rest) H' R) (hx : ∀ H' (R : VK), Same H H' → te (some x0 :: rest) H' R) : CompGo (Itl K a) (gName 0) tYes te p Q σ0 H := by
  have len : ∀ i, ((xs.take i).map F).length ≤ xs.length := fun i => by rw [List.length_map, List.length_take]; omega
  have hjl : j < xs.length := (List.getElem?_eq_some_iff.mp hj).1
  refine ⟨fun i m σ' H' => m = xs.length - i ∧ i ≤ j ∧ (∃ t, σ' = t :: rest) ∧ Same H H' ∧ H' p = some (.lst ((xs.take i).map F)), ⟨xs.length, by simp, Nat.zero_le _, h0, same_new hp _, upd_same⟩, ?_⟩
  rintro i m σ' H' ⟨rfl, hi, ⟨t, rfl⟩, s1, ep⟩
  have hlt : i < xs.length := by omega
  refine .inr ⟨⟨xs, xs[i], s1.seq hS, by simp [hlt]⟩, fun x H2 y => ?_⟩
  obtain ⟨e1, y⟩ := y
  subst e1
  have e2 := y xs (s1.seq hS)
  show te (some x :: rest) _ _
  by_cases hij : i = j
  · subst hij
    rw [hj] at e2
    cases e2
    exact hx _ _ s1
  have hmem : x ∈ xs := List.mem_of_getElem? e2
  have e3 : xs.take (i + 1) = xs.take i ++ [x] := by rw [List.take_add_one, e2]; rfl
  refine he x _ _ hmem s1 fun H4 s4 => ?_
  refine ⟨_, s4 _ _ ep, Nat.lt_of_le_of_lt (len i) (Nat.lt_of_le_of_lt hn (by decide)), xs.length - (i + 1), by omega, rfl, by omega, ⟨_, rfl⟩, same_upd (s1.trans s4) hp _, ?_⟩
  rw [upd_same, e3, List.map_append]
  rfl
end L2

set_option Elab.async false
set_option linter.all false
set_option maxRecDepth 100000
set_option maxHeartbeats 4000000
namespace L2
open PySem PySem.Spec PyProof.Rows
/-! ### spoilt notes -/
def P0 (n : Nat) (ms : List Nat) : List Str := (numT n ++ sg 58) :: ms.map numT
def HeadW (y : Str) : Prop := ∃ k, k < 100 ∧ y = numT k ++ sg 58
def NumW (y : Str) : Prop := ∃ k, k < 100 ∧ y = numT k
def Cl (y : Str) : Prop := 32 ∉ y.cps.toList ∧ Asc y
theorem hd_toList (n : Nat) : (numT n ++ sg 58).cps.toList = fg n ++ [58] := by rw [app_toList]; rfl
theorem fg_ne {n : Nat} (h : n < 100) : fg n ≠ [] := fun e => by
  have := fg_len n h
  rw [str_len] at this
  have e : (numT n).cps.toList = [] := e
  rw [e] at this
  simp at this
theorem alien {y : Str} {c : Nat} (h : c ∈ y.cps.toList) (hc : c < 48 ∨ 58 < c) : ¬ HeadW y ∧ ¬ NumW y := by
  constructor
  · rintro ⟨k, hk, rfl⟩
    rw [hd_toList] at h
    rcases List.mem_append.mp h with h | h
    · have := fg_mem k hk c h; omega
    · have := List.mem_singleton.mp h; omega
  · rintro ⟨k, hk, rfl⟩
    have := fg_mem k hk c h; omega
theorem head_tail {y : Str} {n : Nat} {u : List Nat} (hn : n < 100) (e : y.cps.toList = fg n ++ 58 :: u) (hu : u ≠ []) : ¬ HeadW y := by
  rintro ⟨k, hk, rfl⟩
  rw [hd_toList] at e
  exact hu (cut_unique (fg_not hk (.inr (by omega))) (fg_not hn (.inr (by omega))) e).2.symm
theorem num_nohead {n : Nat} (hn : n < 100) : ¬ HeadW (numT n) := by
  rintro ⟨k, hk, e⟩
  have h : (58 : Nat) ∈ fg n := by
    show 58 ∈ (numT n).cps.toList
    rw [e, hd_toList]; simp
  exact fg_not hn (.inr (by omega)) h
theorem empty_no : ¬ HeadW Str.empty ∧ ¬ NumW Str.empty := by
  constructor
  · rintro ⟨k, hk, e⟩
    have := congrArg (fun z : Str => z.cps.toList) e
    have this : ([] : List Nat) = (numT k ++ sg 58).cps.toList := this
    rw [hd_toList] at this
    simp at this
  · rintro ⟨k, hk, e⟩
    have := congrArg (fun z : Str => z.cps.toList) e
    have this : ([] : List Nat) = fg k := this
    exact fg_ne hk this.symm
theorem colon_nohead : ¬ HeadW (sg 58) := by
  rintro ⟨k, hk, e⟩
  have := congrArg (fun z : Str => z.cps.toList) e
  have this : [] ++ 58 :: [] = (numT k ++ sg 58).cps.toList := this
  rw [hd_toList] at this
  exact fg_ne hk (cut_unique (by simp) (fg_not hk (.inr (by omega))) this).1.symm
theorem nought_no : ∀ n : Nat, n < 100 → ∀ k : Nat, k < 100 → sg 48 ++ numT n ≠ numT k := by decide +kernel
theorem nought_num {n : Nat} (hn : n < 100) : ¬ NumW (sg 48 ++ numT n) := fun ⟨k, hk, e⟩ => nought_no n hn k hk e
theorem nought_head {n : Nat} (hn : n < 100) : ¬ HeadW (sg 48 ++ (numT n ++ sg 58)) := by
  rintro ⟨k, hk, e⟩
  have := congrArg (fun z : Str => z.cps.toList) e
  rw [app_toList, hd_toList, hd_toList] at this
  have this : (48 :: fg n) ++ 58 :: [] = fg k ++ 58 :: [] := this
  have h := (cut_unique (by intro z; rcases List.mem_cons.mp z with z | z; · cases z
                            · exact fg_not hn (.inr (by omega)) z) (fg_not hk (.inr (by omega))) this).1
  refine nought_no n hn k hk (str_toList ?_)
  rw [app_toList]
  exact h
theorem long_num {y : Str} (h : 3 ≤ y.length) : ¬ NumW y := by
  rintro ⟨k, hk, rfl⟩
  have := fg_len k hk; omega
theorem long_head {y : Str} (h : 3 ≤ y.length) : ¬ HeadW (y ++ sg 58) := by
  rintro ⟨k, hk, e⟩
  have e := congrArg (fun z : Str => z.cps.toList.length) e
  rw [app_toList, app_toList] at e
  simp only [List.length_append, ← str_len] at e
  have := fg_len k hk; omega
theorem Cl.app {a b : Str} (ha : Cl a) (hb : Cl b) : Cl (a ++ b) := by
  constructor
  · rw [app_toList]; intro h
    rcases List.mem_append.mp h with h | h
    · exact ha.1 h
    · exact hb.1 h
  · intro c hc
    rw [app_toList] at hc
    rcases List.mem_append.mp hc with h | h
    · exact ha.2 c h
    · exact hb.2 c h
theorem cl_num {n : Nat} (h : n < 100) : Cl (numT n) := ⟨fg_not h (.inl (by omega)), fun c hc => by have := fg_mem n h c hc; omega⟩
theorem cl_sg {c : Nat} (h : c < 128) (h2 : c ≠ 32) : Cl (sg c) := ⟨fun h => by have h : 32 ∈ [c] := h; exact h2 (List.mem_singleton.mp h).symm, fun x hx => by have hx : x ∈ [c] := hx; rw [List.mem_singleton.mp hx]; exact h⟩
theorem cl_empty : Cl Str.empty := ⟨fun h => (nomatch h), fun x hx => (nomatch hx)⟩
theorem cl_hd {n : Nat} (h : n < 100) : Cl (numT n ++ sg 58) := (cl_num h).app (cl_sg (by decide) (by decide))
theorem p0_cl {n : Nat} {ms : List Nat} (hn : n < 100) (hm : ∀ m ∈ ms, m < 100) : ∀ x ∈ P0 n ms, Cl x ∧ x.length ≤ 3 := fun x hx => by
  rcases List.mem_cons.mp hx with rfl | hx
  · refine ⟨cl_hd hn, ?_⟩
    have := fg_len n hn
    rw [str_len, hd_toList, List.length_append]
    have := fg_short hn
    simp; omega
  · obtain ⟨m, hmm, rfl⟩ := List.mem_map.mp hx
    have := fg_len m (hm m hmm)
    exact ⟨cl_num (hm m hmm), by omega⟩
theorem p0_len (n : Nat) (ms : List Nat) : (P0 n ms).length = ms.length + 1 := by unfold P0; simp
theorem badL {L : List Str} {j : Nat} {y : Str} (hL : L[j]? = some y) (h0 : j = 0 → ¬ HeadW y) (h1 : 0 < j → ¬ NumW y) (hc : ∀ x ∈ L, Cl x) : BadN (Str.join (sg 32) L) := by
  intro n ms hn hm e
  have e : Str.join (sg 32) L = Str.join (sg 32) (P0 n ms) := e
  have hne : L ≠ [] := fun z => by rw [z] at hL; cases hL
  have e := join_inj hne (by unfold P0; simp) (fun x hx => (hc x hx).1) (fun x hx => (p0_cl hn hm x hx).1.1) e
  rw [e] at hL
  cases j with
  | zero => exact h0 rfl ⟨n, hn, (Option.some.inj hL).symm⟩
  | succ j =>
    have hL : (ms.map numT)[j]? = some y := hL
    obtain ⟨m, hmm, rfl⟩ := List.mem_map.mp (List.mem_of_getElem? hL)
    exact h1 (by omega) ⟨m, hm m hmm, rfl⟩
def wt (L : List Str) : Nat := (L.map (·.length)).sum + L.length
theorem wt_cons (x : Str) (L : List Str) : wt (x :: L) = x.length + 1 + wt L := by unfold wt; simp; omega
theorem wt_app (A B : List Str) : wt (A ++ B) = wt A + wt B := by unfold wt; simp; omega
theorem wt_le {L : List Str} {b : Nat} (h : ∀ x ∈ L, x.length ≤ b) : wt L ≤ L.length * (b + 1) := by
  induction L with
  | nil => simp [wt]
  | cons x L ih =>
    have := ih fun y hy => h y (List.mem_cons_of_mem _ hy)
    have := h x List.mem_cons_self
    rw [wt_cons, List.length_cons, Nat.add_mul]; omega
theorem wt_set (L : List Str) (x : Str) : wt (L.set 0 x) ≤ wt L + x.length := by
  cases L with
  | nil => simp [wt]
  | cons y L => rw [List.set_cons_zero, wt_cons, wt_cons]; omega
theorem join_wt (c : Nat) (L : List Str) : (Str.join (sg c) L).length ≤ wt L := by
  cases L with
  | nil => exact Nat.zero_le _
  | cons x L =>
    rw [str_len, join_toList, List.length_append, wt_cons, ← str_len]
    have : (L.flatMap fun z => c :: z.cps.toList).length = wt L := by
      induction L with
      | nil => simp [wt]
      | cons y L ih => rw [List.flatMap_cons, List.length_append, ih, wt_cons, List.length_cons, ← str_len]
    omega
theorem join_asc {c : Nat} {L : List Str} (hc : c < 128) (h : ∀ x ∈ L, Cl x) : Asc (Str.join (sg c) L) := by
  cases L with
  | nil => intro x hx; exact nomatch hx
  | cons y L =>
    intro x hx
    rw [join_toList] at hx
    rcases List.mem_append.mp hx with hx | hx
    · exact (h y List.mem_cons_self).2 x hx
    · obtain ⟨z, hz, hx⟩ := List.mem_flatMap.mp hx
      rcases List.mem_cons.mp hx with rfl | hx
      · exact hc
      · exact (h z (List.mem_cons_of_mem _ hz)).2 x hx
theorem cl_join9 {L : List Str} (h : ∀ x ∈ L, Cl x) : Cl (Str.join (sg 9) L) := by
  refine ⟨?_, join_asc (by decide) h⟩
  cases L with
  | nil => intro h; exact nomatch h
  | cons y L =>
    rw [join_toList]
    intro hx
    rcases List.mem_append.mp hx with hx | hx
    · exact (h y List.mem_cons_self).1 hx
    · obtain ⟨z, hz, hx⟩ := List.mem_flatMap.mp hx
      rcases List.mem_cons.mp hx with e | hx
      · cases e
      · exact (h z (List.mem_cons_of_mem _ hz)).1 hx
theorem cutsT (P : List Str) (c : Nat) : cutV (P.map V.str) none (some (c : Int)) = (P.take c).map V.str := by
  unfold cutV
  rw [HT.sIx_nat, HT.sIx_none, Nat.sub_zero, List.drop_zero, List.length_map, ← List.map_take]
  congr 1
  by_cases h : c ≤ P.length
  · rw [Nat.min_eq_left h]
  · rw [Nat.min_eq_right (by omega), List.take_of_length_le (by omega), List.take_of_length_le (by omega)]
theorem cutsD (P : List Str) (c : Nat) : cutV (P.map V.str) (some (c : Int)) none = (P.drop c).map V.str := by
  unfold cutV
  rw [HT.sIx_nat, HT.sIx_none, List.length_map, ← List.map_drop, ← List.map_take]
  congr 1
  by_cases h : c ≤ P.length
  · rw [Nat.min_eq_left h, List.take_of_length_le (by rw [List.length_drop]; omega)]
  · rw [Nat.min_eq_right (by omega), List.drop_of_length_le (by omega), List.drop_of_length_le (by omega)]; simp
theorem cutsN (P : List Str) : cutV (P.map V.str) none (some (-1)) = (P.take (P.length - 1)).map V.str := by
  unfold cutV
  have e : HT.sIx (P.map V.str).length (P.map V.str).length (some (-1)) = P.length - 1 := by
    rw [List.length_map]
    unfold HT.sIx
    simp <;> omega
  rw [e, HT.sIx_none, Nat.sub_zero, List.drop_zero, ← List.map_take]
end L2

set_option maxRecDepth 100000
namespace WM
/-! mooring along a quay, over a set T of taken places -/
def ff (T : Int → Bool) (lo : Int) : Nat → Option Int
  | 0 => none
  | n + 1 => if T lo then ff T (lo + 1) n else some lo
def tk (T : Int → Bool) : Option Int → (Int → Bool)
  | none => T
  | some q => fun x => decide (x = q) || T x
def hop (long : Int) (T : Int → Bool) (w : Int) : Option Int := ff T w (long - w).toNat
def mo (long : Int) : List Int → (Int → Bool) → List (Option Int)
  | [], _ => []
  | w :: ws, T => hop long T w :: mo long ws (tk T (hop long T w))
def st (long : Int) : List Int → (Int → Bool) → (Int → Bool)
  | [], T => T
  | w :: ws, T => st long ws (tk T (hop long T w))
def none0 : Int → Bool := fun _ => false

theorem mo_length (long : Int) : ∀ (ws : List Int) (T : Int → Bool), (mo long ws T).length = ws.length
  | [], _ => rfl
  | _ :: ws, T => congrArg (· + 1) (mo_length long ws _)
theorem mo_snoc (long w : Int) : ∀ (ws : List Int) (T : Int → Bool), mo long (ws ++ [w]) T = mo long ws T ++ [hop long (st long ws T) w]
  | [], _ => rfl
  | v :: ws, T => by
    show hop long T v :: mo long (ws ++ [w]) _ = _
    rw [mo_snoc long w ws]; rfl
theorem st_snoc (long w : Int) : ∀ (ws : List Int) (T : Int → Bool), st long (ws ++ [w]) T = tk (st long ws T) (hop long (st long ws T) w)
  | [], _ => rfl
  | v :: ws, T => by
    show st long (ws ++ [w]) _ = _
    rw [st_snoc long w ws]; rfl
/-- what the search finds -/
theorem ff_spec (T : Int → Bool) : ∀ (n : Nat) (lo : Int), match ff T lo n with
    | some q => lo ≤ q ∧ q < lo + n ∧ T q = false ∧ ∀ x, lo ≤ x → x < q → T x = true
    | none => ∀ x, lo ≤ x → x < lo + n → T x = true
  | 0, lo => by
    show ∀ x, lo ≤ x → x < lo + ((0 : Nat) : Int) → T x = true
    intro x h1 h2; omega
  | n + 1, lo => by
    unfold ff
    cases h : T lo with
    | false =>
      rw [if_neg (by decide)]
      refine ⟨by omega, by omega, h, fun x h1 h2 => by omega⟩
    | true =>
      rw [if_pos rfl]
      have ih := ff_spec T n (lo + 1)
      cases e : ff T (lo + 1) n with
      | none =>
        rw [e] at ih
        intro x h1 h2
        by_cases hx : x = lo
        · rw [hx]; exact h
        · exact ih x (by omega) (by omega)
      | some q =>
        rw [e] at ih
        obtain ⟨a, b, c, d⟩ := ih
        refine ⟨by omega, by omega, c, fun x h1 h2 => ?_⟩
        by_cases hx : x = lo
        · rw [hx]; exact h
        · exact d x (by omega) h2
theorem hop_some {long : Int} {T : Int → Bool} {w q : Int} (h : hop long T w = some q) : w ≤ q ∧ q < long ∧ T q = false ∧ ∀ x, w ≤ x → x < q → T x = true := by
  have s := ff_spec T (long - w).toNat w
  unfold hop at h
  rw [h] at s
  obtain ⟨a, b, c, d⟩ := s
  exact ⟨a, by omega, c, d⟩
theorem hop_none {long : Int} {T : Int → Bool} {w : Int} (h : hop long T w = none) : ∀ x, w ≤ x → x < long → T x = true := by
  have s := ff_spec T (long - w).toNat w
  unfold hop at h
  rw [h] at s
  intro x h1 h2
  exact s x h1 (by omega)
/-- by what it finds it is told -/
theorem hop_eq_some {long : Int} {T : Int → Bool} {w q : Int} (h1 : w ≤ q) (h2 : q < long) (h3 : T q = false) (h4 : ∀ x, w ≤ x → x < q → T x = true) : hop long T w = some q := by
  cases e : hop long T w with
  | none => rw [hop_none e q h1 h2] at h3; cases h3
  | some r =>
    obtain ⟨a, b, c, d⟩ := hop_some e
    by_cases l : r < q
    · rw [h4 r a l] at c; cases c
    · by_cases g : q < r
      · rw [d q h1 g] at h3; cases h3
      · congr 1; omega
theorem hop_eq_none {long : Int} {T : Int → Bool} {w : Int} (h : ∀ x, w ≤ x → x < long → T x = true) : hop long T w = none := by
  cases e : hop long T w with
  | none => rfl
  | some r =>
    obtain ⟨a, b, c, d⟩ := hop_some e
    rw [h r a b] at c; cases c

/-! the boats whose wish is p or greater -/
def cnt (ws : List Int) (p : Int) : Nat := (ws.filter fun w => decide (w ≥ p)).length
theorem cnt_nil (p : Int) : cnt [] p = 0 := rfl
theorem cnt_cons (w : Int) (ws : List Int) (p : Int) : cnt (w :: ws) p = (if w ≥ p then 1 else 0) + cnt ws p := by
  unfold cnt
  rw [List.filter_cons]
  by_cases h : w ≥ p
  · rw [if_pos (decide_eq_true h), if_pos h, List.length_cons]; omega
  · rw [if_neg (by simpa using h), if_neg h]; omega
theorem cnt_append (xs ys : List Int) (p : Int) : cnt (xs ++ ys) p = cnt xs p + cnt ys p := by
  unfold cnt; rw [List.filter_append, List.length_append]
theorem cnt_perm {xs ys : List Int} (h : xs.Perm ys) (p : Int) : cnt xs p = cnt ys p := (h.filter _).length_eq
theorem cnt_zero {ws : List Int} {p : Int} (h : ∀ w ∈ ws, w < p) : cnt ws p = 0 := by
  unfold cnt
  rw [List.filter_eq_nil_iff.mpr (fun w hw => by have := h w hw; simp; omega)]; rfl
theorem cnt_all {ws : List Int} {p : Int} (h : ∀ w ∈ ws, p ≤ w) : cnt ws p = ws.length := by
  unfold cnt
  rw [List.filter_eq_self.mpr (fun w hw => by have := h w hw; simpa using this)]

/-! the flow: how many boats come on into place n -/
def fl (c : Int → Nat) : Nat → Int
  | 0 => 0
  | n + 1 => max 0 (fl c n + ((c n : Int) - (c (n + 1 : Int) : Int)) - 1)
theorem fl_nonneg (c : Int → Nat) : ∀ n, 0 ≤ fl c n
  | 0 => Int.le_refl 0
  | _ + 1 => by unfold fl; omega
/-- the most by which boats are too many, from some place on -/
theorem fl_ge (c : Int → Nat) : ∀ (n p : Nat), p ≤ n → ((c p : Int) - (c n : Int)) - ((n : Int) - p) ≤ fl c n
  | 0, p, h => by
    have : p = 0 := by omega
    subst this; unfold fl; omega
  | n + 1, p, h => by
    by_cases hp : p = n + 1
    · subst hp; have := fl_nonneg c (n + 1); omega
    · have ih := fl_ge c n p (by omega)
      unfold fl
      have e : ((n + 1 : Nat) : Int) = (n : Int) + 1 := by omega
      rw [e]
      omega
theorem fl_is (c : Int → Nat) : ∀ (n : Nat), ∃ p : Nat, p ≤ n ∧ ((c p : Int) - (c n : Int)) - ((n : Int) - p) = fl c n
  | 0 => ⟨0, Nat.le_refl _, by unfold fl; omega⟩
  | n + 1 => by
    obtain ⟨p, hp, e⟩ := fl_is c n
    by_cases h : 0 ≤ fl c n + ((c n : Int) - (c (n + 1 : Int) : Int)) - 1
    · refine ⟨p, by omega, ?_⟩
      unfold fl
      have e1 : ((n + 1 : Nat) : Int) = (n : Int) + 1 := by omega
      rw [e1]; omega
    · refine ⟨n + 1, Nat.le_refl _, ?_⟩
      unfold fl
      have e1 : ((n + 1 : Nat) : Int) = (n : Int) + 1 := by omega
      rw [e1]; omega
theorem fl_congr {c d : Int → Nat} (h : ∀ p, c p = d p) : ∀ n, fl c n = fl d n
  | 0 => rfl
  | n + 1 => by unfold fl; rw [fl_congr h n, h, h]
end WM

namespace WM
/-- one boat more, with the wish w -/
theorem fl_low {c d : Int → Nat} {w : Int} (h : ∀ p, d p = c p + (if w ≥ p then 1 else 0)) : ∀ n : Nat, (n : Int) ≤ w → fl d n = fl c n
  | 0, _ => rfl
  | n + 1, hn => by
    unfold fl
    rw [fl_low h n (by omega), h, h, if_pos (by omega), if_pos (by omega)]
    omega
theorem fl_up {c d : Int → Nat} {w : Int} (h : ∀ p, d p = c p + (if w ≥ p then 1 else 0)) (h0 : 0 ≤ w) : ∀ n : Nat, w < n → (∀ x : Nat, w ≤ x → x < n → 1 ≤ fl c x + ((c x : Int) - (c (x + 1 : Int) : Int))) → fl d n = fl c n + 1
  | 0, hn, _ => by omega
  | n + 1, hn, ht => by
    have t := ht n (by omega) (by omega)
    have g := h n
    have g1 := h (n + 1 : Int)
    by_cases e : w = n
    · have lo := fl_low h n (by omega)
      rw [if_pos (by omega)] at g
      rw [if_neg (by omega)] at g1
      unfold fl
      rw [lo]; omega
    · have ih := fl_up h h0 n (by omega) (fun x h1 h2 => ht x h1 (by omega))
      rw [if_neg (by omega)] at g
      rw [if_neg (by omega)] at g1
      unfold fl
      rw [ih]; omega
/-- .. that finds the free place q: behind it all is as before -/
theorem fl_at {c d : Int → Nat} {w : Int} {q : Nat} (h : ∀ p, d p = c p + (if w ≥ p then 1 else 0)) (h0 : 0 ≤ w) (hq : w ≤ q) (ht : ∀ x : Nat, w ≤ x → x < q → 1 ≤ fl c x + ((c x : Int) - (c (x + 1 : Int) : Int)))
    (hf : fl c q + ((c q : Int) - (c (q + 1 : Int) : Int)) ≤ 0) : ∀ n : Nat, q < n → fl d n = fl c n := by
  have at1 : fl d (q + 1) = fl c (q + 1) := by
    have g := h q
    have g1 := h (q + 1 : Int)
    by_cases e : w = q
    · have lo := fl_low h q (by omega)
      rw [if_pos (by omega)] at g
      rw [if_neg (by omega)] at g1
      unfold fl; rw [lo]; omega
    · have up := fl_up h h0 q (by omega) ht
      rw [if_neg (by omega)] at g
      rw [if_neg (by omega)] at g1
      unfold fl; rw [up]; omega
  intro n
  induction n with
  | zero => intro hn; omega
  | succ n ih =>
    intro hn
    by_cases e : n = q
    · subst e; exact at1
    · have i := ih (by omega)
      have g := h n
      have g1 := h (n + 1 : Int)
      rw [if_neg (by omega)] at g
      rw [if_neg (by omega)] at g1
      unfold fl; rw [i]; omega

def lost (l : List (Option Int)) : Nat := (l.filter fun o => o.isNone).length
theorem lost_append (a b : List (Option Int)) : lost (a ++ b) = lost a + lost b := by unfold lost; rw [List.filter_append, List.length_append]
theorem cnt_snoc (ws : List Int) (w p : Int) : cnt (ws ++ [w]) p = cnt ws p + (if w ≥ p then 1 else 0) := by
  rw [cnt_append, cnt_cons, cnt_nil]; omega
theorem cnt_mono (ws : List Int) (p : Int) : (cnt ws (p + 1) : Int) ≤ cnt ws p := by
  have : cnt ws (p + 1) ≤ cnt ws p := by
    induction ws with
    | nil => exact Nat.le_refl _
    | cons v r ih => rw [cnt_cons, cnt_cons]; split <;> split <;> omega
  omega
theorem rev_ind {α : Type} {P : List α → Prop} (h0 : P []) (hs : ∀ l a, P l → P (l ++ [a])) : ∀ l, P l := by
  intro l
  have : ∀ m : List α, P m.reverse := by
    intro m
    induction m with
    | nil => exact h0
    | cons a m ih => rw [List.reverse_cons]; exact hs _ _ ih
  have := this l.reverse
  rwa [List.reverse_reverse] at this
/-- THE FLOW: which places are taken in the end, and how many sail on -/
theorem flow (L : Nat) : ∀ ws : List Int, (∀ w ∈ ws, 0 ≤ w ∧ w < L) →
    (∀ p : Nat, p < L → st L ws none0 p = decide (1 ≤ fl (cnt ws) p + ((cnt ws p : Int) - (cnt ws (p + 1 : Int) : Int)))) ∧ (lost (mo L ws none0) : Int) = fl (cnt ws) L := by
  refine rev_ind ?_ ?_
  · intro _
    have z : ∀ n, fl (cnt []) n = 0 := by
      intro n
      induction n with
      | zero => rfl
      | succ n ih => unfold fl; rw [ih, cnt_nil, cnt_nil]; rfl
    refine ⟨fun p _ => ?_, ?_⟩
    · rw [z, cnt_nil, cnt_nil]; rfl
    · rw [z]; rfl
  · intro ws w ih hall
    have hw := hall w (by simp)
    obtain ⟨hT, hN⟩ := ih fun v hv => hall v (by simp [hv])
    have hc := fun p => cnt_snoc ws w p
    rw [st_snoc, mo_snoc, lost_append]
    have tr : ∀ x : Nat, x < L → st L ws none0 x = true → 1 ≤ fl (cnt ws) x + ((cnt ws x : Int) - (cnt ws (x + 1 : Int) : Int)) := fun x hx e => by
      rw [hT x hx] at e; exact of_decide_eq_true e
    cases e : hop L (st L ws none0) w with
    | none =>
      have hn := hop_none e
      have ht : ∀ x : Nat, w ≤ x → x < L → 1 ≤ fl (cnt ws) x + ((cnt ws x : Int) - (cnt ws (x + 1 : Int) : Int)) := fun x h1 h2 => tr x h2 (hn x h1 (by omega))
      refine ⟨fun p hp => ?_, ?_⟩
      · show st L ws none0 p = _
        by_cases hpw : (p : Int) < w
        · rw [hT p hp, fl_low hc p (by omega), hc, hc, if_pos (by omega), if_pos (by omega)]
          congr 1
          apply propext; omega
        · have t1 := hn p (by omega) (by omega)
          rw [t1]
          symm
          apply decide_eq_true
          have t2 := ht p (by omega) hp
          have g := hc p
          have g1 := hc (p + 1 : Int)
          rw [if_neg (by omega)] at g1
          by_cases hpe : w = p
          · rw [if_pos (by omega)] at g
            rw [fl_low hc p (by omega)]; omega
          · rw [if_neg (by omega)] at g
            rw [fl_up hc hw.1 p (by omega) (fun x h1 h2 => ht x h1 (by omega))]; omega
      · rw [fl_up hc hw.1 L hw.2 ht]
        show ((lost (mo L ws none0) + 1 : Nat) : Int) = _
        omega
    | some q =>
      obtain ⟨q1, q2, q3, q4⟩ := hop_some e
      obtain ⟨k, rfl⟩ : ∃ k : Nat, q = k := ⟨q.toNat, by omega⟩
      have hk : k < L := by omega
      have ht : ∀ x : Nat, w ≤ x → x < k → 1 ≤ fl (cnt ws) x + ((cnt ws x : Int) - (cnt ws (x + 1 : Int) : Int)) := fun x h1 h2 => tr x (by omega) (q4 x h1 (by omega))
      have hf : fl (cnt ws) k + ((cnt ws k : Int) - (cnt ws (k + 1 : Int) : Int)) ≤ 0 := by
        have := hT k hk
        rw [q3] at this
        have := of_decide_eq_false this.symm
        omega
      refine ⟨fun p hp => ?_, ?_⟩
      · show (decide ((p : Int) = k) || st L ws none0 p) = _
        have g := hc p
        have g1 := hc (p + 1 : Int)
        by_cases hpw : (p : Int) < w
        · rw [decide_eq_false (by omega), Bool.false_or, hT p hp, fl_low hc p (by omega), hc, hc, if_pos (by omega), if_pos (by omega)]
          congr 1
          apply propext; omega
        · rw [if_neg (by omega)] at g1
          by_cases hpk : p < k
          · have t1 := q4 p (by omega) (by omega)
            rw [t1, Bool.or_true]
            symm; apply decide_eq_true
            have t2 := ht p (by omega) hpk
            by_cases hpe : w = p
            · rw [if_pos (by omega)] at g
              rw [fl_low hc p (by omega)]; omega
            · rw [if_neg (by omega)] at g
              rw [fl_up hc hw.1 p (by omega) (fun x h1 h2 => ht x h1 (by omega))]; omega
          · by_cases hpe : p = k
            · subst hpe
              rw [decide_eq_true rfl, Bool.true_or]
              symm; apply decide_eq_true
              have n0 := fl_nonneg (cnt ws) p
              have mono := cnt_mono ws p
              by_cases hpe : w = p
              · rw [if_pos (by omega)] at g
                rw [fl_low hc p (by omega)]; omega
              · rw [if_neg (by omega)] at g
                rw [fl_up hc hw.1 p (by omega) ht]; omega
            · rw [if_neg (by omega)] at g
              rw [decide_eq_false (by omega), Bool.false_or, hT p hp, fl_at hc hw.1 q1 ht hf p (by omega), g, g1]
              congr 1
      · rw [fl_at hc hw.1 q1 ht hf L hk]
        show ((lost (mo L ws none0) + 0 : Nat) : Int) = _
        omega
end WM

namespace WM
/-- the greatest place below n of which P holds -/
def lastP (P : Int → Bool) : Nat → Option Int
  | 0 => none
  | n + 1 => if P n then some (n : Int) else lastP P n
theorem lastP_none {P : Int → Bool} : ∀ {n : Nat}, lastP P n = none ↔ ∀ p : Nat, p < n → P p = false
  | 0 => ⟨fun _ p h => by omega, fun _ => rfl⟩
  | n + 1 => by
    unfold lastP
    cases h : P n with
    | true =>
      refine ⟨fun e => (nomatch e), fun e => ?_⟩
      rw [e n (by omega)] at h; cases h
    | false =>
      rw [if_neg (by decide), lastP_none]
      refine ⟨fun e p hp => ?_, fun e p hp => e p (by omega)⟩
      by_cases hpn : p = n
      · subst hpn; exact h
      · exact e p (by omega)
def many (L : Int) (ws : List Int) (p : Int) : Bool := decide ((cnt ws p : Int) > L - p)
theorem lost_pos {l : List (Option Int)} : none ∈ l ↔ 0 < lost l := by
  unfold lost
  rw [List.length_pos_iff_exists_mem]
  constructor
  · intro h; exact ⟨none, List.mem_filter.mpr ⟨h, rfl⟩⟩
  · rintro ⟨o, h⟩
    obtain ⟨h1, h2⟩ := List.mem_filter.mp h
    cases o with
    | none => exact h1
    | some v => cases h2
/-- who moors whole -/
theorem whole_iff (L : Nat) (ws : List Int) (h : ∀ w ∈ ws, 0 ≤ w ∧ w < L) : none ∈ mo L ws none0 ↔ lastP (many L ws) L ≠ none := by
  rw [lost_pos]
  have e := (flow L ws h).2
  have z : cnt ws L = 0 := cnt_zero fun w hw => (h w hw).2
  constructor
  · intro hp hn
    obtain ⟨p, hpL, he⟩ := fl_is (cnt ws) L
    have hlt : p < L := by
      by_cases hq : p = L
      · subst hq; omega
      · omega
    have := lastP_none.mp hn p hlt
    have := of_decide_eq_false this
    omega
  · intro hn
    by_cases hp : 0 < lost (mo L ws none0)
    · exact hp
    · exfalso
      apply hn
      rw [lastP_none]
      intro p hpl
      apply decide_eq_false
      have := fl_ge (cnt ws) L p (by omega)
      omega
/-! the most by which boats are too many -/
def gm (f : Int → Int) : Nat → Int
  | 0 => 0
  | n + 1 => if f n > gm f n then f n else gm f n
theorem gm_ge (f : Int → Int) : ∀ n, 0 ≤ gm f n ∧ ∀ p : Nat, p < n → f p ≤ gm f n
  | 0 => ⟨Int.le_refl _, fun p h => by omega⟩
  | n + 1 => by
    obtain ⟨a, b⟩ := gm_ge f n
    unfold gm
    refine ⟨by split <;> omega, fun p h => ?_⟩
    by_cases hp : p = n
    · subst hp; split <;> omega
    · have := b p (by omega); split <;> omega
theorem gm_is (f : Int → Int) : ∀ n, gm f n = 0 ∨ ∃ p : Nat, p < n ∧ f p = gm f n
  | 0 => .inl rfl
  | n + 1 => by
    unfold gm
    by_cases h : f n > gm f n
    · rw [if_pos h]; exact .inr ⟨n, by omega, rfl⟩
    · rw [if_neg h]
      rcases gm_is f n with e | ⟨p, hp, e⟩
      · exact .inl e
      · exact .inr ⟨p, by omega, e⟩
theorem gone_eq (L : Nat) (ws : List Int) (h : ∀ w ∈ ws, 0 ≤ w ∧ w < L) : gm (fun p => (cnt ws p : Int) - (L - p)) L = lost (mo L ws none0) := by
  rw [(flow L ws h).2]
  have z : cnt ws L = 0 := cnt_zero fun w hw => (h w hw).2
  obtain ⟨a, b⟩ := gm_ge (fun p => (cnt ws p : Int) - (L - p)) L
  have n0 := fl_nonneg (cnt ws) L
  have u : gm (fun p => (cnt ws p : Int) - (L - p)) L ≤ fl (cnt ws) L := by
    rcases gm_is (fun p => (cnt ws p : Int) - (L - p)) L with e | ⟨p, hp, e⟩
    · omega
    · have := fl_ge (cnt ws) L p (by omega)
      rw [← e]
      show (cnt ws p : Int) - (L - p) ≤ _
      omega
  obtain ⟨p, hp, e⟩ := fl_is (cnt ws) L
  by_cases hq : p = L
  · subst hq; omega
  · have := b p (by omega)
    have this : (cnt ws p : Int) - (L - p) ≤ gm (fun p => (cnt ws p : Int) - (L - p)) L := this
    omega
/-! the places taken -/
def irange (lo : Int) (n : Nat) : List Int := (List.range n).map fun (i : Nat) => lo + (i : Int)
theorem irange_zero (lo : Int) : irange lo 0 = [] := rfl
theorem irange_snoc (lo : Int) (n : Nat) : irange lo (n + 1) = irange lo n ++ [lo + n] := by
  unfold irange; rw [List.range_succ, List.map_append]; rfl
theorem irange_cons (lo : Int) (n : Nat) : irange lo (n + 1) = lo :: irange (lo + 1) n := by
  induction n with
  | zero => unfold irange; simp
  | succ n ih =>
    rw [irange_snoc, ih, irange_snoc, List.cons_append]
    congr 3
    omega
theorem mem_irange {lo : Int} {n : Nat} {x : Int} : x ∈ irange lo n ↔ lo ≤ x ∧ x < lo + n := by
  unfold irange
  rw [List.mem_map]
  constructor
  · rintro ⟨i, hi, rfl⟩
    have := List.mem_range.mp hi
    omega
  · intro h
    exact ⟨(x - lo).toNat, List.mem_range.mpr (by omega), by omega⟩
theorem irange_length (lo : Int) (n : Nat) : (irange lo n).length = n := by unfold irange; simp
theorem irange_sorted (lo : Int) : ∀ n, (irange lo n).Pairwise (· < ·)
  | 0 => List.Pairwise.nil
  | n + 1 => by
    rw [irange_snoc, List.pairwise_append]
    refine ⟨irange_sorted lo n, List.pairwise_singleton _ _, fun a ha b hb => ?_⟩
    have := mem_irange.mp ha
    have : b = lo + n := by simpa using hb
    omega
def placesOf (l : List (Option Int)) : List Int := l.filterMap id
theorem perm_put {q : Int} {T : Int → Bool} (hT : T q = false) : ∀ {l : List Int}, l.Pairwise (· < ·) → q ∈ l → (l.filter (tk T (some q))).Perm (l.filter T ++ [q])
  | [], _, h => by cases h
  | x :: l, hp, h => by
    obtain ⟨h1, h2⟩ := List.pairwise_cons.mp hp
    by_cases hx : x = q
    · subst hx
      have e : l.filter (tk T (some x)) = l.filter T := by
        apply List.filter_congr
        intro y hy
        have := h1 y hy
        show (decide (y = x) || T y) = T y
        rw [decide_eq_false (by omega), Bool.false_or]
      rw [List.filter_cons, if_pos (by show (decide (x = x) || T x) = true; rw [decide_eq_true rfl, Bool.true_or]), e, List.filter_cons, if_neg (by rw [hT]; decide)]
      exact (List.perm_append_singleton x _).symm
    · have hm : q ∈ l := by
        rcases List.mem_cons.mp h with e | e
        · exact absurd e.symm hx
        · exact e
      have ih := perm_put hT h2 hm
      have e : tk T (some q) x = T x := by
        show (decide (x = q) || T x) = T x
        rw [decide_eq_false hx, Bool.false_or]
      rw [List.filter_cons, List.filter_cons, e]
      cases T x with
      | true => rw [if_pos rfl, if_pos rfl]; exact ih.cons x
      | false => rw [if_neg (by decide), if_neg (by decide)]; exact ih
theorem places_perm (L : Nat) : ∀ ws : List Int, (∀ w ∈ ws, 0 ≤ w ∧ w < L) → (placesOf (mo L ws none0)).Perm ((irange 0 L).filter (st L ws none0)) := by
  refine rev_ind ?_ ?_
  · intro _
    have : (irange 0 L).filter (st L [] none0) = [] := List.filter_eq_nil_iff.mpr fun x _ => by simp [st, none0]
    rw [this]; exact List.Perm.refl _
  · intro ws w ih hall
    have hw := hall w (by simp)
    have ih := ih fun v hv => hall v (by simp [hv])
    rw [mo_snoc, st_snoc]
    unfold placesOf
    rw [List.filterMap_append]
    cases e : hop L (st L ws none0) w with
    | none =>
      show (List.filterMap id (mo L ws none0) ++ []).Perm _
      rw [List.append_nil]; exact ih
    | some q =>
      obtain ⟨q1, q2, q3, q4⟩ := hop_some e
      have := perm_put q3 (irange_sorted 0 L) (mem_irange.mpr ⟨by omega, by omega⟩ : q ∈ irange 0 L)
      refine List.Perm.trans ?_ this.symm
      exact ih.append_right _
theorem st_perm (L : Nat) {ws vs : List Int} (h : ∀ w ∈ ws, 0 ≤ w ∧ w < L) (p : ws.Perm vs) : (irange 0 L).filter (st L ws none0) = (irange 0 L).filter (st L vs none0) := by
  have h' : ∀ w ∈ vs, 0 ≤ w ∧ w < L := fun w hw => h w (p.mem_iff.mpr hw)
  apply List.filter_congr
  intro x hx
  have hx := mem_irange.mp hx
  obtain ⟨k, rfl⟩ : ∃ k : Nat, x = k := ⟨x.toNat, by omega⟩
  rw [(flow L ws h).1 k (by omega), (flow L vs h').1 k (by omega), cnt_perm p, cnt_perm p, fl_congr (cnt_perm p)]
theorem lost_cons (o : Option Int) (l : List (Option Int)) : lost (o :: l) = (if o.isNone then 1 else 0) + lost l := by
  unfold lost
  rw [List.filter_cons]
  split
  · rw [List.length_cons]; omega
  · omega
theorem places_length : ∀ (l : List (Option Int)), (placesOf l).length + lost l = l.length
  | [] => rfl
  | none :: l => by
    have ih := places_length l
    rw [lost_cons]
    show (placesOf l).length + (1 + lost l) = l.length + 1
    omega
  | some v :: l => by
    have ih := places_length l
    rw [lost_cons]
    show (placesOf l).length + 1 + (0 + lost l) = l.length + 1
    omega
end WM

namespace WM
/-! round the ring of N places -/
def rs (T : Int → Bool) (N : Nat) (w : Int) : Option Int := ff (fun k => T ((w + k) % N)) 0 N
def rq (T : Int → Bool) (N : Nat) (w : Int) : Int := (w + (rs T N w).getD 0) % N
def rm (N : Nat) : List Int → (Int → Bool) → List Int
  | [], _ => []
  | w :: ws, T => rq T N w :: rm N ws (tk T (some (rq T N w)))
def rst (N : Nat) : List Int → (Int → Bool) → (Int → Bool)
  | [], T => T
  | w :: ws, T => rst N ws (tk T (some (rq T N w)))
theorem rm_length (N : Nat) : ∀ (ws : List Int) (T : Int → Bool), (rm N ws T).length = ws.length
  | [], _ => rfl
  | _ :: ws, _ => congrArg (· + 1) (rm_length N ws _)
theorem rm_snoc (N : Nat) (w : Int) : ∀ (ws : List Int) (T : Int → Bool), rm N (ws ++ [w]) T = rm N ws T ++ [rq (rst N ws T) N w]
  | [], _ => rfl
  | v :: ws, T => by
    show rq T N v :: rm N (ws ++ [w]) _ = _
    rw [rm_snoc N w ws]; rfl
theorem rst_snoc (N : Nat) (w : Int) : ∀ (ws : List Int) (T : Int → Bool), rst N (ws ++ [w]) T = tk (rst N ws T) (some (rq (rst N ws T) N w))
  | [], _ => rfl
  | v :: ws, T => by
    show rst N (ws ++ [w]) _ = _
    rw [rst_snoc N w ws]; rfl
/-! counting what is taken -/
def tc (T : Int → Bool) : Nat → Nat
  | 0 => 0
  | n + 1 => tc T n + (if T n then 1 else 0)
theorem tc_le (T : Int → Bool) : ∀ n, tc T n ≤ n
  | 0 => Nat.le_refl _
  | n + 1 => by have := tc_le T n; unfold tc; split <;> omega
theorem tc_full {T : Int → Bool} : ∀ {n : Nat}, tc T n = n → ∀ p : Nat, p < n → T p = true
  | 0, _, p, h => by omega
  | n + 1, e, p, h => by
    have l := tc_le T n
    unfold tc at e
    cases t : T n with
    | false => rw [t, if_neg (by decide)] at e; omega
    | true =>
      rw [t, if_pos rfl] at e
      by_cases hp : p = n
      · subst hp; exact t
      · exact tc_full (n := n) (by omega) p (by omega)
theorem tc_free {T : Int → Bool} : ∀ {n : Nat}, tc T n < n → ∃ p : Nat, p < n ∧ T p = false
  | 0, h => by omega
  | n + 1, h => by
    cases t : T n with
    | false => exact ⟨n, by omega, t⟩
    | true =>
      unfold tc at h
      rw [t, if_pos rfl] at h
      obtain ⟨p, hp, e⟩ := tc_free (T := T) (n := n) (by omega)
      exact ⟨p, by omega, e⟩
theorem tc_one {T : Int → Bool} : ∀ {n : Nat}, tc T n + 1 = n → ∃ p : Nat, p < n ∧ T p = false ∧ ∀ x : Nat, x < n → x ≠ p → T x = true
  | 0, h => by omega
  | n + 1, h => by
    have l := tc_le T n
    unfold tc at h
    cases t : T n with
    | false =>
      rw [t, if_neg (by decide)] at h
      refine ⟨n, by omega, t, fun x h1 h2 => tc_full (n := n) (by omega) x (by omega)⟩
    | true =>
      rw [t, if_pos rfl] at h
      obtain ⟨p, hp, e, u⟩ := tc_one (T := T) (n := n) (by omega)
      refine ⟨p, by omega, e, fun x h1 h2 => ?_⟩
      by_cases hx : x = n
      · subst hx; exact t
      · exact u x (by omega) h2
theorem tc_put {T : Int → Bool} {q : Int} (hq : T q = false) (h0 : 0 ≤ q) : ∀ n : Nat, tc (tk T (some q)) n = tc T n + (if q < n then 1 else 0)
  | 0 => by unfold tc; rw [if_neg (by omega)]
  | n + 1 => by
    have ih := tc_put hq h0 n
    unfold tc
    rw [ih]
    have e : tk T (some q) n = (decide ((n : Int) = q) || T n) := rfl
    rw [e]
    by_cases h : (n : Int) = q
    · rw [decide_eq_true h, Bool.true_or, if_pos rfl, if_neg (by omega), h, hq, if_neg (by decide), if_pos (by omega)]
    · rw [decide_eq_false h, Bool.false_or]
      have e2 : (if q < ((n + 1 : Nat) : Int) then 1 else 0 : Nat) = (if q < (n : Int) then 1 else 0) := by
        by_cases l : q < (n : Int)
        · rw [if_pos l, if_pos (show q < ((n + 1 : Nat) : Int) by omega)]
        · rw [if_neg l, if_neg (show ¬ q < ((n + 1 : Nat) : Int) by omega)]
      rw [e2]; omega
theorem tc_none : ∀ n, tc none0 n = 0
  | 0 => rfl
  | n + 1 => by unfold tc; rw [tc_none n]; rfl
/-- while some place is free the search ends at one -/
theorem rs_some {T : Int → Bool} {N : Nat} (w : Int) (h : tc T N < N) : ∃ k : Int, rs T N w = some k ∧ 0 ≤ k ∧ k < N ∧ T ((w + k) % N) = false ∧ ∀ x, 0 ≤ x → x < k → T ((w + x) % N) = true := by
  have s := ff_spec (fun k => T ((w + k) % N)) N 0
  unfold rs
  cases e : ff (fun k => T ((w + k) % N)) 0 N with
  | some k =>
    rw [e] at s
    obtain ⟨a, b, c, d⟩ := s
    exact ⟨k, rfl, a, by omega, c, d⟩
  | none =>
    exfalso
    rw [e] at s
    obtain ⟨p, hp, f⟩ := tc_free h
    have hN : (0 : Int) < N := by omega
    have h1 := Int.emod_nonneg ((p : Int) - w) (show (N : Int) ≠ 0 by omega)
    have h2 := Int.emod_lt_of_pos ((p : Int) - w) hN
    have := s (((p : Int) - w) % N) h1 (by omega)
    have e2 : (w + ((p : Int) - w) % N) % N = p := by
      rw [Int.add_emod_emod, show w + ((p : Int) - w) = p by omega]
      exact Int.emod_eq_of_lt (by omega) (by omega)
    have this : T ((w + ((p : Int) - w) % N) % N) = true := this
    rw [e2, f] at this; cases this
theorem rq_spec {T : Int → Bool} {N : Nat} (w : Int) (h : tc T N < N) : 0 ≤ rq T N w ∧ rq T N w < N ∧ T (rq T N w) = false := by
  obtain ⟨k, e, a, b, c, d⟩ := rs_some w h
  unfold rq
  rw [e]
  exact ⟨Int.emod_nonneg _ (by omega), Int.emod_lt_of_pos _ (by omega), c⟩
theorem rst_tc (N : Nat) : ∀ (ws : List Int), ws.length ≤ N → tc (rst N ws none0) N = ws.length := by
  refine rev_ind ?_ ?_
  · intro _; exact tc_none N
  · intro ws w ih hl
    rw [List.length_append, List.length_singleton] at hl ⊢
    have ih := ih (by omega)
    obtain ⟨a, b, c⟩ := rq_spec (T := rst N ws none0) (N := N) w (by omega)
    rw [rst_snoc, tc_put c a, if_pos b, ih]
theorem rm_mem (N : Nat) (x : Int) : ∀ (ws : List Int) (T : Int → Bool), rst N ws T x = true ↔ (x ∈ rm N ws T ∨ T x = true)
  | [], T => by show T x = true ↔ _; simp [rm]
  | w :: ws, T => by
    show rst N ws _ x = true ↔ x ∈ rq T N w :: rm N ws _ ∨ _
    rw [rm_mem N x ws]
    show _ ∨ (decide (x = rq T N w) || T x) = true ↔ _
    rw [Bool.or_eq_true, decide_eq_true_iff, List.mem_cons]
    constructor
    · rintro (h | h | h)
      · exact .inl (.inr h)
      · exact .inl (.inl h)
      · exact .inr h
    · rintro ((h | h) | h)
      · exact .inr (.inl h)
      · exact .inl h
      · exact .inr (.inr h)
/-- the place that stays free -/
theorem left (n : Nat) (ws : List Int) (hl : ws.length = n) : ∃ p : Int, 0 ≤ p ∧ p ≤ n ∧ rst (n + 1) ws none0 p = false ∧ ∀ x : Int, 0 ≤ x → x ≤ n → x ≠ p → rst (n + 1) ws none0 x = true := by
  obtain ⟨p, h1, h2, h3⟩ := tc_one (T := rst (n + 1) ws none0) (n := n + 1) (by rw [rst_tc (n + 1) ws (by omega)]; omega)
  refine ⟨p, by omega, by omega, h2, fun x a b c => ?_⟩
  have := h3 x.toNat (by omega) (by omega)
  rw [show ((x.toNat : Nat) : Int) = x by omega] at this
  exact this
theorem ff_eq_some {T : Int → Bool} {lo q : Int} {n : Nat} (h1 : lo ≤ q) (h2 : q < lo + n) (h3 : T q = false) (h4 : ∀ x, lo ≤ x → x < q → T x = true) : ff T lo n = some q := by
  have s := ff_spec T n lo
  cases e : ff T lo n with
  | none => rw [e] at s; rw [s q h1 h2] at h3; cases h3
  | some r =>
    rw [e] at s
    obtain ⟨a, b, c, d⟩ := s
    by_cases l : r < q
    · rw [h4 r a l] at c; cases c
    · by_cases g : q < r
      · rw [d q h1 g] at h3; cases h3
      · congr 1; omega
def lf (n : Nat) (ws : List Int) : Int := (ff (rst (n + 1) ws none0) 0 (n + 1)).getD 0
theorem lf_spec (n : Nat) (ws : List Int) (hl : ws.length = n) : 0 ≤ lf n ws ∧ lf n ws ≤ n ∧ rst (n + 1) ws none0 (lf n ws) = false ∧ ff (rst (n + 1) ws none0) 0 (n + 1) = some (lf n ws) ∧ ∀ x : Int, 0 ≤ x → x ≤ n → rst (n + 1) ws none0 x = false → x = lf n ws := by
  obtain ⟨p, h1, h2, h3, h4⟩ := left n ws hl
  have e : ff (rst (n + 1) ws none0) 0 (n + 1) = some p := ff_eq_some h1 (by omega) h3 fun x a b => h4 x a (by omega) (by omega)
  have e2 : lf n ws = p := by unfold lf; rw [e]; rfl
  rw [e2]
  refine ⟨h1, h2, h3, e, fun x a b c => ?_⟩
  by_cases hx : x = p
  · exact hx
  · rw [h4 x a b hx] at c; cases c
/-! turning -/
def turn (N : Nat) (by_ : Int) (ws : List Int) : List Int := ws.map fun w => (w + by_) % N
theorem ff_congr {T T' : Int → Bool} : ∀ (n : Nat) (lo : Int), (∀ x, lo ≤ x → x < lo + n → T x = T' x) → ff T lo n = ff T' lo n
  | 0, _, _ => rfl
  | n + 1, lo, h => by
    unfold ff
    rw [h lo (by omega) (by omega), ff_congr n (lo + 1) fun x a b => h x (by omega) (by omega)]
theorem rst_turn (N : Nat) (hN : 0 < N) (b : Int) : ∀ (ws : List Int) (T T' : Int → Bool), (∀ x : Int, T' ((x + b) % N) = T (x % N)) → ∀ x : Int, rst N (turn N b ws) T' ((x + b) % N) = rst N ws T (x % N)
  | [], _, _, h, x => h x
  | w :: ws, T, T', h, x => by
    show rst N (turn N b ws) (tk T' (some (rq T' N ((w + b) % N)))) _ = rst N ws (tk T (some (rq T N w))) _
    have e1 : rs T' N ((w + b) % N) = rs T N w := by
      unfold rs
      apply ff_congr
      intro k _ _
      show T' (((w + b) % N + k) % N) = T ((w + k) % N)
      rw [Int.emod_add_emod, show w + b + k = w + k + b by omega, h]
    have e2 : rq T' N ((w + b) % N) = (rq T N w + b) % N := by
      unfold rq
      rw [e1, Int.emod_add_emod, Int.emod_add_emod]
      congr 1; omega
    apply rst_turn N hN b ws
    intro y
    show (decide ((y + b) % N = rq T' N ((w + b) % N)) || T' ((y + b) % N)) = (decide (y % N = rq T N w) || T (y % N))
    rw [h y, e2]
    congr 1
    have q0 : 0 ≤ rq T N w := Int.emod_nonneg _ (by omega)
    have q1 : rq T N w < N := Int.emod_lt_of_pos _ (by omega)
    have : ((y + b) % N = (rq T N w + b) % N) ↔ (y % N = rq T N w) := by
      constructor
      · intro e
        have : (y + b - b) % (N : Int) = (rq T N w + b - b) % N := by rw [Int.sub_emod, e, ← Int.sub_emod]
        rw [show y + b - b = y by omega, show rq T N w + b - b = rq T N w by omega, Int.emod_eq_of_lt q0 q1] at this
        exact this
      · intro e
        rw [← Int.emod_add_emod y, e]
    exact decide_eq_decide.mpr this
theorem lf_turn (n : Nat) (b : Int) (ws : List Int) (hl : ws.length = n) : lf n (turn (n + 1) b ws) = (lf n ws + b) % (n + 1 : Nat) := by
  obtain ⟨a1, a2, a3, a4, a5⟩ := lf_spec n ws hl
  obtain ⟨c1, c2, c3, c4, c5⟩ := lf_spec n (turn (n + 1) b ws) (by unfold turn; rw [List.length_map]; exact hl)
  symm
  have h1 := Int.emod_nonneg (lf n ws + b) (show ((n + 1 : Nat) : Int) ≠ 0 by omega)
  have h2 := Int.emod_lt_of_pos (lf n ws + b) (show (0 : Int) < ((n + 1 : Nat) : Int) by omega)
  apply c5 _ h1 (by omega)
  rw [rst_turn (n + 1) (by omega) b ws none0 none0 (fun _ => rfl), Int.emod_eq_of_lt a1 (by omega)]
  exact a3
theorem turn_turn (N : Nat) (hN : 0 < N) (b : Int) (ws : List Int) (h : ∀ w ∈ ws, 0 ≤ w ∧ w < N) : turn N (0 - b) (turn N b ws) = ws := by
  unfold turn
  rw [List.map_map]
  have : ∀ w ∈ ws, ((fun w => (w + (0 - b)) % (N : Int)) ∘ fun w => (w + b) % (N : Int)) w = w := by
    intro w hw
    show ((w + b) % N + (0 - b)) % (N : Int) = w
    rw [Int.emod_add_emod, show w + b + (0 - b) = w by omega]
    exact Int.emod_eq_of_lt (h w hw).1 (h w hw).2
  rw [List.map_congr_left this, List.map_id']
/-! the ring's last place stays free just where the row moors whole on the quay -/
theorem rst_true {N : Nat} {x : Int} (ws : List Int) (T : Int → Bool) (h : T x = true) : rst N ws T x = true := (rm_mem N x ws T).mpr (.inr h)
theorem ring_quay (n : Nat) : ∀ (ws : List Int) (T : Int → Bool), (∀ w ∈ ws, 0 ≤ w ∧ w ≤ n) → T n = false → (rst (n + 1) ws T n = false ↔ none ∉ mo n ws T)
  | [], T, _, h => by show T n = false ↔ _; simp [mo, h]
  | w :: ws, T, hw, h => by
    have w0 := hw w (by simp)
    have hs := fun v hv => hw v (List.mem_cons_of_mem _ hv)
    show rst (n + 1) ws (tk T (some (rq T (n + 1) w))) n = false ↔ none ∉ hop n T w :: mo n ws (tk T (hop n T w))
    have em : ∀ k : Int, 0 ≤ k → w + k ≤ n → (w + k) % ((n + 1 : Nat) : Int) = w + k := fun k a b => Int.emod_eq_of_lt (by omega) (by omega)
    cases e : hop n T w with
    | some q =>
      obtain ⟨q1, q2, q3, q4⟩ := hop_some e
      have e1 : rs T (n + 1) w = some (q - w) := by
        unfold rs
        apply ff_eq_some (by omega) (by omega)
        · show T ((w + (q - w)) % ((n + 1 : Nat) : Int)) = false
          rw [em _ (by omega) (by omega), show w + (q - w) = q by omega]; exact q3
        · intro x a b
          show T ((w + x) % ((n + 1 : Nat) : Int)) = true
          rw [em _ a (by omega)]; exact q4 _ (by omega) (by omega)
      have e2 : rq T (n + 1) w = q := by
        unfold rq
        rw [e1]
        show (w + (q - w)) % ((n + 1 : Nat) : Int) = q
        rw [em _ (by omega) (by omega)]; omega
      rw [e2, ring_quay n ws _ hs (by show (decide ((n : Int) = q) || T n) = false; rw [decide_eq_false (by omega), Bool.false_or]; exact h)]
      simp
    | none =>
      have hn := hop_none e
      have e1 : rs T (n + 1) w = some (n - w) := by
        unfold rs
        apply ff_eq_some (by omega) (by omega)
        · show T ((w + (n - w)) % ((n + 1 : Nat) : Int)) = false
          rw [em _ (by omega) (by omega), show w + ((n : Int) - w) = n by omega]; exact h
        · intro x a b
          show T ((w + x) % ((n + 1 : Nat) : Int)) = true
          rw [em _ a (by omega)]; exact hn _ (by omega) (by omega)
      have e2 : rq T (n + 1) w = n := by
        unfold rq
        rw [e1]
        show (w + (n - w)) % ((n + 1 : Nat) : Int) = n
        rw [em _ (by omega) (by omega)]; omega
      rw [e2, rst_true ws _ (show tk T (some (n : Int)) n = true by show (decide ((n : Int) = n) || T n) = true; rw [decide_eq_true rfl, Bool.true_or])]
      simp
theorem whole_last (n : Nat) (ws : List Int) (hl : ws.length = n) (hw : ∀ w ∈ ws, 0 ≤ w ∧ w ≤ n) : none ∉ mo n ws none0 ↔ lf n ws = n := by
  rw [← ring_quay n ws none0 hw rfl]
  obtain ⟨a1, a2, a3, a4, a5⟩ := lf_spec n ws hl
  constructor
  · intro h; exact (a5 n (by omega) (by omega) h).symm
  · intro h; rw [← h]; exact a3
theorem last_none (n : Nat) : ∀ (ws : List Int) (T : Int → Bool), (n : Int) ∈ ws → none ∈ mo n ws T
  | [], _, h => by cases h
  | w :: ws, T, h => by
    show none ∈ hop n T w :: mo n ws _
    rcases List.mem_cons.mp h with e | e
    · subst e
      rw [hop_eq_none (fun x a b => by omega)]
      exact List.mem_cons_self
    · exact List.mem_cons_of_mem _ (last_none n ws _ e)
/-- the luck: the one number by which the row must be turned -/
theorem luck_one (n : Nat) (ws : List Int) (hl : ws.length = n) (b : Int) (h0 : 0 ≤ b) (h1 : b ≤ n) : (none ∉ mo n (turn (n + 1) b ws) none0) ↔ b = n - lf n ws := by
  have hN : (0 : Int) < ((n + 1 : Nat) : Int) := by omega
  rw [whole_last n (turn (n + 1) b ws) (by unfold turn; rw [List.length_map]; exact hl) (fun w hw => by
    obtain ⟨v, _, rfl⟩ := List.mem_map.mp hw
    have a := Int.emod_nonneg (v + b) (show ((n + 1 : Nat) : Int) ≠ 0 by omega)
    have c := Int.emod_lt_of_pos (v + b) hN
    omega), lf_turn n b ws hl]
  obtain ⟨a1, a2, _⟩ := lf_spec n ws hl
  by_cases c : lf n ws + b < ((n + 1 : Nat) : Int)
  · rw [Int.emod_eq_of_lt (by omega) c]; omega
  · rw [show lf n ws + b = (lf n ws + b - ((n + 1 : Nat) : Int)) + ((n + 1 : Nat) : Int) by omega, Int.add_emod_right, Int.emod_eq_of_lt (by omega) (by omega)]; omega
end WM

set_option Elab.async false
set_option linter.all false
set_option maxRecDepth 100000
set_option maxHeartbeats 4000000
namespace Moor
open PySem L2 WM
def oV : Option Int → V
  | none => .non
  | some q => .int q
theorem oV_pl (o : Option Int) : plV (oV o) = true := by cases o <;> rfl
theorem pl_oV (l : List (Option Int)) : (l.map oV).all plV = true := by
  rw [List.all_map]; exact List.all_eq_true.mpr fun o _ => oV_pl o
theorem pl_int (l : List Int) : (l.map V.int).all plV = true := by
  rw [List.all_map]; exact List.all_eq_true.mpr fun _ _ => rfl
theorem int_of {ws : List Int} {i : Nat} {y : V} (h : (ws.map V.int)[i]? = some y) : ∃ z, y = .int z ∧ ws[i]? = some z := by
  rw [List.getElem?_map] at h
  cases e : ws[i]? with
  | none => rw [e] at h; cases h
  | some z => rw [e] at h; exact ⟨z, (Option.some.inj h).symm, rfl⟩
theorem of_o {ws : List (Option Int)} {i : Nat} {y : V} (h : (ws.map oV)[i]? = some y) : ∃ z, y = oV z ∧ ws[i]? = some z := by
  rw [List.getElem?_map] at h
  cases e : ws[i]? with
  | none => rw [e] at h; cases h
  | some z => rw [e] at h; exact ⟨z, (Option.some.inj h).symm, rfl⟩
theorem take_snoc {α : Type} {l : List α} {i : Nat} {z : α} (h : l[i]? = some z) : l.take (i + 1) = l.take i ++ [z] := by
  rw [List.take_add_one, h]; rfl
theorem at_lt {α : Type} {l : List α} {i : Nat} {z : α} (h : l[i]? = some z) : i < l.length := (List.getElem?_eq_some_iff.mp h).1
theorem at_map {α : Type} (f : α → V) {l : List α} {k : Int} (h0 : 0 ≤ k) (h : k < l.length) : ∃ z, l[k.toNat]? = some z ∧ atI (l.map f) k = some (f z) := by
  have hk : k.toNat < l.length := by omega
  refine ⟨l[k.toNat], List.getElem?_eq_getElem hk, ?_⟩
  have q : atI (l.map f) ((k.toNat : Nat) : Int) = some (f l[k.toNat]) := atI_nat (by rw [List.getElem?_map, List.getElem?_eq_getElem hk] <;> rfl)
  rw [show ((k.toNat : Nat) : Int) = k by omega] at q
  exact q
theorem ifN {c : Prop} [Decidable c] {A B : Prop} (hc : ¬ c) (h : B) : if decide c = true then A else B := by
  rw [if_neg (by simpa using hc)]; exact h
theorem ifP {c : Prop} [Decidable c] {A B : Prop} (hc : c) (h : A) : if decide c = true then A else B := by
  rw [if_pos (by simpa using hc)]; exact h
theorem ifD {c : Prop} [Decidable c] {A B : Prop} (h1 : c → A) (h2 : ¬ c → B) : if decide c = true then A else B := by
  by_cases h : c
  · exact ifP h (h1 h)
  · exact ifN h (h2 h)
theorem ifNN {c : Prop} [Decidable c] {A B : Prop} (hc : c) (h : B) : if (!decide c) = true then A else B := by
  rw [if_neg (by simpa using hc)]; exact h
theorem ifNP {c : Prop} [Decidable c] {A B : Prop} (hc : ¬ c) (h : A) : if (!decide c) = true then A else B := by
  rw [if_pos (by simpa using hc)]; exact h
theorem ifB {b : Bool} {A B : Prop} (h1 : b = true → A) (h2 : b = false → B) : if b = true then A else B := by
  cases b with
  | true => rw [if_pos rfl]; exact h1 rfl
  | false => rw [if_neg (by decide)]; exact h2 rfl
theorem hop_congr {long : Int} {T T' : Int → Bool} {w : Int} (h : ∀ x, w ≤ x → x < long → T x = T' x) : hop long T w = hop long T' w := by
  unfold hop
  by_cases hl : w ≤ long
  · exact ff_congr _ _ fun x a b => h x a (by omega)
  · rw [show (long - w).toNat = 0 by omega]; rfl
theorem rep_false (n : Nat) : (List.replicate n [V.bl false]).flatten = (List.replicate n false).map V.bl := by
  induction n with
  | zero => rfl
  | succ n ih => rw [List.replicate_succ, List.flatten_cons, ih, List.replicate_succ, List.map_cons]; rfl

theorem filt_hop (T : Int → Bool) : ∀ (n : Nat) (lo : Int), match ff T lo n with
    | none => (irng lo n).filter (fun x => !T x) = []
    | some q => ∃ r, (irng lo n).filter (fun x => !T x) = q :: r
  | 0, lo => rfl
  | n + 1, lo => by
    have ih := filt_hop T n (lo + 1)
    have e : irng lo (n + 1) = lo :: irng (lo + 1) n := irange_cons lo n
    unfold ff
    rw [e, List.filter_cons]
    cases h : T lo with
    | false => rw [if_neg (by decide), if_pos (show (!false) = true from rfl)]; exact ⟨_, rfl⟩
    | true => rw [if_pos rfl, if_neg (show ¬ (!true) = true by decide)]; exact ih

theorem tc_congr {T T' : Int → Bool} : ∀ n : Nat, (∀ x : Nat, x < n → T x = T' x) → tc T n = tc T' n
  | 0, _ => rfl
  | n + 1, h => by unfold tc; rw [tc_congr n fun x hx => h x (by omega), h n (by omega)]

theorem rq_congr {T T' : Int → Bool} {N : Nat} (hN : 0 < N) (w : Int) (h : ∀ x : Int, 0 ≤ x → x < N → T x = T' x) : rq T N w = rq T' N w := by
  unfold rq rs
  rw [ff_congr (T := fun k => T ((w + k) % N)) (T' := fun k => T' ((w + k) % N)) N 0 fun x _ _ => h _ (Int.emod_nonneg _ (by omega)) (Int.emod_lt_of_pos _ (by omega))]

theorem inV_int (x : Int) (l : List Int) : inV (.int x) (l.map V.int) = decide (x ∈ l) := by
  unfold inV
  rw [List.any_map, Bool.eq_iff_iff, List.any_eq_true, decide_eq_true_iff]
  constructor
  · rintro ⟨y, hy, e⟩
    have e : (y == x) = true := e
    rw [← eq_of_beq e]; exact hy
  · intro h; exact ⟨x, h, beq_self_eq_true x⟩

theorem fl_int (l : List Int) : (l.map V.int).all flatV = true := by rw [List.all_map]; exact List.all_eq_true.mpr fun _ _ => rfl

def cellAt (ns : List Int) (k : Int) : Int := ns.getD k.toNat 0
theorem em (x m : Int) (h : 0 < m) : 0 ≤ x % m ∧ x % m < m := ⟨Int.emod_nonneg x (by omega), Int.emod_lt_of_pos x h⟩
def geV (p : Int) : V → Bool
  | .int z => decide (z ≥ p)
  | _ => false
theorem geV_len (p : Int) (ws : List Int) : (((ws.map V.int).filter (geV p)).length : Int) = cnt ws p := by
  rw [List.filter_map, List.length_map]; rfl
theorem lastP_some {P : Int → Bool} {p : Nat} : ∀ {n : Nat}, p < n → P p = true → (∀ q : Nat, p < q → q < n → P q = false) → lastP P n = some (p : Int)
  | 0, h, _, _ => by omega
  | n + 1, h, hp, hq => by
    unfold lastP
    by_cases e : p = n
    · subst e; rw [if_pos hp]
    · rw [if_neg (by rw [hq n (by omega) (by omega)]; decide)]
      exact lastP_some (by omega) hp fun q a b => hq q a (by omega)
theorem inV_non (l : List (Option Int)) : inV .non (l.map oV) = decide (none ∈ l) := by
  unfold inV
  rw [List.any_map, Bool.eq_iff_iff, List.any_eq_true, decide_eq_true_iff]
  constructor
  · rintro ⟨y, hy, e⟩
    cases y with
    | none => exact hy
    | some z => cases e
  · intro h; exact ⟨none, h, rfl⟩
theorem fl_oV (l : List (Option Int)) : (l.map oV).all flatV = true := by
  rw [List.all_map]; exact List.all_eq_true.mpr fun o _ => by cases o <;> rfl
/-- a list of at most 63 ints is handed to the law, True comes out -/
def spLaw (K : PySem.W.Frag) : Sp := fun vs H Q _ => ∃ (a : Addr) (ns : List Int), vs = [.ref a] ∧ SqL K H a (ns.map V.int) ∧ ns.length ≤ 63 ∧ ∀ H', Q (.bl true) H'
theorem walk {k : Nat} {l : PySem.W.OpenLaw} {q : Program} {loose : List Str} {XP : (Str → Option Value) → Heap → Prop} {YP : World → Heap → Prop} {d : DefRec} {K : Params → PySem.W.Frag} (hk : k ≤ 40) (hn : l.most = some 63) (hdf : d.params.defaults = [])
    (hY : ∀ (w : World) (h : Heap), YP w h → (K w.params).In h)
    (F : ∀ (w : World) (mg : Str → Option Value) (fa : Addr) (h : Heap), (K w.params).In h → h.Ns mainGlobals mg → mg d.name = some (.ref fa) →
      ∃ fd : FuncData, (∀ (s : Shared) (u : Value), BindsTo s fd ⟨[u], []⟩ [("script", u)]) ∧ ∀ base : Heap, (K w.params).In base → base.Ns mainGlobals mg → FnOk l.prog w (K w.params) mg base CX0 k fa fd ["script"] (spLaw (K w.params))) :
    PySem.W.WalkO q loose XP YP l.row.toRowW d [] (fun f vs => PySem.call f vs) :=
  L2.walk_of (n := 63) (k := k) (x := "script") (CX := fun _ => CX0) (sp := fun w => spLaw (K w.params)) hn (by decide) hdf ((show Room 40 callerA from ⟨rfl, by decide, by decide⟩).mono hk) hY F (fun _ _ a ns hl _ hS => ⟨a, ns, rfl, hS, hl, fun _ => rfl⟩) fun _ _ _ _ _ z => z
theorem law_mk {l : PySem.W.OpenLaw} {w : World} {K : PySem.W.Frag} {h : Heap} {mg : Str → Option Value} {st : Stmt} {fa f : Addr} {od an : Option Addr} {sl : Array (Option Value)} {oc kV dc pm cd ct : Value} {kk : Nat} (X : K.In h) (G : h.Ns mainGlobals mg) (hfa : mg "law" = some (.ref fa))
    (a : PySem.W.nsIn K mainGlobals "law" = some (some (.ref f))) (l1 : K.lookup f = some ⟨oc, od, .func (PySem.W.fnOf "law" "law" (defArgs st) (defBody st) (defScope st) .none kV dc pm an cd ct), sl⟩) (c : PySem.W.codeIn K cd "law" = true) (k : PySem.W.keepIn K (.ref f) = true)
    (hb : ∀ v : Value, bindArgs (PySem.W.fnOf "law" "law" (defArgs st) (defBody st) (defScope st) .none kV dc pm an cd ct) ⟨[v], []⟩ = pure [(("script" : Str), v)])
    (D : ∀ (base : Heap) (f : Addr) (fd : FuncData), Fun K "law" "law" st f fd → FnOk l.prog w K mg base CX0 kk f fd ["script"] (spLaw K)) :
    ∃ fd : FuncData, (∀ (s : Shared) (v : Value), BindsTo s fd ⟨[v], []⟩ [("script", v)]) ∧ ∀ base : Heap, K.In base → base.Ns mainGlobals mg → FnOk l.prog w K mg base CX0 kk fa fd ["script"] (spLaw K) := by
  have e := hfa.symm.trans (PySem.W.mg_of X G a)
  cases e
  exact ⟨_, fun s v => .of_eq (hb v), fun base _ _ => D base _ _ (fun_mk (st := st) l1 c k)⟩
end Moor

set_option Elab.async false
set_option linter.all false
namespace WM
/-! ### outcomes: the span of a boat -/
/-- walking down from p over taken places -/
def low (T : Int → Bool) : Nat → Int → Int
  | 0, p => p
  | n + 1, p => if T (p - 1) then low T n (p - 1) else p
theorem low_spec (T : Int → Bool) : ∀ (n : Nat) (p : Int), low T n p ≤ p ∧ (∀ x, low T n p ≤ x → x < p → T x = true) ∧ p - n ≤ low T n p ∧ (p - n < low T n p → T (low T n p - 1) = false)
  | 0, p => ⟨Int.le_refl _, fun x a b => by unfold low at a; omega, by unfold low; omega, fun h => by unfold low at h; omega⟩
  | n + 1, p => by
    unfold low
    by_cases h : T (p - 1) = true
    · rw [if_pos h]
      obtain ⟨a, b, c, d⟩ := low_spec T n (p - 1)
      refine ⟨by omega, fun x h1 h2 => ?_, by omega, fun h3 => d (by omega)⟩
      by_cases e : x = p - 1
      · rw [e]; exact h
      · exact b x h1 (by omega)
    · rw [if_neg h]
      exact ⟨Int.le_refl _, fun x a b => by omega, by omega, fun _ => by simpa using h⟩
/-- with enough fuel the place below the least is free -/
theorem low_free {T : Int → Bool} {p : Int} {n : Nat} (hT : ∀ x, T x = true → 0 ≤ x) (h0 : 0 ≤ p) (hn : p < n) : 0 ≤ low T n p ∧ T (low T n p - 1) = false := by
  obtain ⟨a, b, c, d⟩ := low_spec T n p
  have h : 0 ≤ low T n p := by
    by_cases e : low T n p < p
    · have := b _ (Int.le_refl _) e; exact hT _ this
    · omega
  refine ⟨h, d (by omega)⟩
theorem low_fuel {T : Int → Bool} {p : Int} {n m : Nat} (hT : ∀ x, T x = true → 0 ≤ x) (h0 : 0 ≤ p) (hn : p < n) (hm : p < m) : low T n p = low T m p := by
  obtain ⟨a, b, _, _⟩ := low_spec T n p
  obtain ⟨a', b', _, _⟩ := low_spec T m p
  have c := (low_free hT h0 hn).2
  have c' := (low_free hT h0 hm).2
  apply Int.le_antisymm
  · apply Int.not_lt.mp
    intro h
    have := b' (low T n p - 1) (by omega) (by omega)
    rw [c] at this; cases this
  · apply Int.not_lt.mp
    intro h
    have := b (low T m p - 1) (by omega) (by omega)
    rw [c'] at this; cases this
theorem hop_iff {long p w : Int} {T : Int → Bool} {n : Nat} (hT : ∀ x, T x = true → 0 ≤ x) (h0 : 0 ≤ p) (hl : p < long) (hp : T p = false) (hn : p < n) : hop long T w = some p ↔ low T n p ≤ w ∧ w ≤ p := by
  obtain ⟨a, b, _, _⟩ := low_spec T n p
  have c := (low_free hT h0 hn).2
  constructor
  · intro h
    obtain ⟨h1, h2, h3, h4⟩ := hop_some h
    refine ⟨Int.not_lt.mp fun e => ?_, h1⟩
    have := h4 (low T n p - 1) (by omega) (by omega)
    rw [c] at this; cases this
  · rintro ⟨h1, h2⟩
    exact hop_eq_some h2 hl hp fun x hx hx2 => b x (by omega) hx2
/-- the least wishes of the boats, one behind the other -/
def lows (T : Int → Bool) : List Int → List Int
  | [] => []
  | p :: r => low T (p.toNat + 1) p :: lows (tk T (some p)) r
theorem lows_length : ∀ (ps : List Int) (T : Int → Bool), (lows T ps).length = ps.length
  | [], _ => rfl
  | p :: r, T => by unfold lows; rw [List.length_cons, List.length_cons, lows_length r]
def within : List Int → List Int → List Int → Bool
  | [], [], [] => true
  | l :: ls, p :: ps, w :: ws => decide (l ≤ w ∧ w ≤ p) && within ls ps ws
  | _, _, _ => false
theorem mo_iff (long : Int) : ∀ (ps : List Int) (T : Int → Bool) (ws : List Int), (∀ p ∈ ps, 0 ≤ p ∧ p < long ∧ T p = false) → ps.Nodup → (∀ x, T x = true → 0 ≤ x) → (mo long ws T = ps.map some ↔ within (lows T ps) ps ws = true)
  | [], T, [], _, _, _ => by simp [mo, lows, within]
  | [], T, w :: ws, _, _, _ => by simp [mo, lows, within]
  | p :: r, T, [], _, _, _ => by simp [mo, lows, within]
  | p :: r, T, w :: ws, hp, nd, hT => by
    have h0 := hp p List.mem_cons_self
    have nd' := List.nodup_cons.mp nd
    unfold mo lows within
    rw [List.map_cons, List.cons.injEq, Bool.and_eq_true, decide_eq_true_iff, ← hop_iff hT h0.1 h0.2.1 h0.2.2 (n := p.toNat + 1) (by omega)]
    constructor
    · rintro ⟨e1, e2⟩
      refine ⟨e1, ?_⟩
      rw [e1] at e2
      exact (mo_iff long r _ ws (fun q hq => ⟨(hp q (List.mem_cons_of_mem _ hq)).1, (hp q (List.mem_cons_of_mem _ hq)).2.1, by
        unfold tk
        have : q ≠ p := fun e => nd'.1 (e ▸ hq)
        simp [this, (hp q (List.mem_cons_of_mem _ hq)).2.2]⟩) nd'.2 (fun x hx => by
        unfold tk at hx
        by_cases e : x = p
        · rw [e]; exact h0.1
        · simp [e] at hx; exact hT x hx)).mp e2
    · rintro ⟨e1, e2⟩
      refine ⟨e1, ?_⟩
      rw [e1]
      exact (mo_iff long r _ ws (fun q hq => ⟨(hp q (List.mem_cons_of_mem _ hq)).1, (hp q (List.mem_cons_of_mem _ hq)).2.1, by
        unfold tk
        have : q ≠ p := fun e => nd'.1 (e ▸ hq)
        simp [this, (hp q (List.mem_cons_of_mem _ hq)).2.2]⟩) nd'.2 (fun x hx => by
        unfold tk at hx
        by_cases e : x = p
        · rw [e]; exact h0.1
        · simp [e] at hx; exact hT x hx)).mpr e2
end WM

set_option Elab.async false
set_option linter.all false
namespace WM
/-! ### trees: the line of knots -/
/-- the boats whose wish is q, as knots -/
def bl (ws : List Int) (q : Int) : List Int := ((List.range ws.length).filter (fun b => decide (ws.getD b 0 = q))).map (fun b : Nat => (b : Int) + 1)
theorem mem_bl {ws : List Int} {q x : Int} : x ∈ bl ws q ↔ ∃ b : Nat, b < ws.length ∧ x = b + 1 ∧ ws.getD b 0 = q := by
  unfold bl
  rw [List.mem_map]
  constructor
  · rintro ⟨b, h, rfl⟩
    rw [List.mem_filter, List.mem_range, decide_eq_true_iff] at h
    exact ⟨b, h.1, rfl, h.2⟩
  · rintro ⟨b, h, rfl, e⟩
    exact ⟨b, List.mem_filter.mpr ⟨List.mem_range.mpr h, decide_eq_true e⟩, rfl⟩
theorem bl_nodup (ws : List Int) (q : Int) : (bl ws q).Nodup := by
  unfold bl
  exact List.Pairwise.map (fun b : Nat => (b : Int) + 1) (fun a b h e => h (by omega)) (List.Pairwise.filter _ List.nodup_range)
/-- the line when the boats with a wish below p have joined -/
def lnT (ws : List Int) (p : Nat) : List Int := 0 :: (List.range p).flatMap (fun q : Nat => bl ws (q : Int))
theorem lnT_zero (ws : List Int) : lnT ws 0 = [0] := rfl
theorem lnT_succ (ws : List Int) (p : Nat) : lnT ws (p + 1) = lnT ws p ++ bl ws p := by
  unfold lnT
  rw [List.range_succ, List.flatMap_append, List.cons_append]
  simp
theorem mem_lnT {ws : List Int} {x : Int} : ∀ {p : Nat}, x ∈ lnT ws p ↔ x = 0 ∨ ∃ b : Nat, b < ws.length ∧ x = b + 1 ∧ 0 ≤ ws.getD b 0 ∧ ws.getD b 0 < p
  | 0 => by
    rw [lnT_zero, List.mem_singleton]
    constructor
    · intro h; exact .inl h
    · rintro (h | ⟨b, _, _, h1, h2⟩)
      · exact h
      · simp only [Int.ofNat_zero] at h2; omega
  | p + 1 => by
    rw [lnT_succ, List.mem_append, mem_lnT, mem_bl]
    constructor
    · rintro ((h | ⟨b, h1, h2, h3, h4⟩) | ⟨b, h1, h2, h3⟩)
      · exact .inl h
      · exact .inr ⟨b, h1, h2, h3, by omega⟩
      · exact .inr ⟨b, h1, h2, by omega, by omega⟩
    · rintro (h | ⟨b, h1, h2, h3, h4⟩)
      · exact .inl (.inl h)
      · by_cases e : ws.getD b 0 = p
        · exact .inr ⟨b, h1, h2, e⟩
        · exact .inl (.inr ⟨b, h1, h2, h3, by omega⟩)
theorem lnT_nodup (ws : List Int) : ∀ p : Nat, (lnT ws p).Nodup
  | 0 => by rw [lnT_zero]; simp
  | p + 1 => by
    rw [lnT_succ, List.nodup_append]
    refine ⟨lnT_nodup ws p, bl_nodup ws p, fun x hx y hy e => ?_⟩
    subst e
    obtain ⟨b, h1, h2, h3⟩ := mem_bl.mp hy
    rcases mem_lnT.mp hx with h | ⟨c, k1, k2, k3, k4⟩
    · omega
    · have : b = c := by omega
      subst this
      omega
theorem lnT_pre (ws : List Int) (p : Nat) : ∀ m, p ≤ m → ∃ r, lnT ws m = lnT ws p ++ r
  | 0, h => ⟨[], by rw [show p = 0 by omega, List.append_nil]⟩
  | m + 1, h => by
    by_cases e : p = m + 1
    · exact ⟨[], by rw [e, List.append_nil]⟩
    · obtain ⟨r, hr⟩ := lnT_pre ws p m (by omega)
      exact ⟨r ++ bl ws m, by rw [lnT_succ, hr, List.append_assoc]⟩
/-- the line told by parents -/
def lnR (ps : List Int) : Nat → List Int
  | 0 => [0]
  | j + 1 => lnR ps j ++ bl ps ((lnR ps j).getD j 0)
theorem lnR_pre (ps : List Int) (p : Nat) : ∀ m, p ≤ m → ∃ r, lnR ps m = lnR ps p ++ r
  | 0, h => ⟨[], by rw [show p = 0 by omega, List.append_nil]⟩
  | m + 1, h => by
    by_cases e : p = m + 1
    · exact ⟨[], by rw [e, List.append_nil]⟩
    · obtain ⟨r, hr⟩ := lnR_pre ps p m (by omega)
      refine ⟨r ++ bl ps ((lnR ps m).getD m 0), ?_⟩
      show lnR ps m ++ _ = _
      rw [hr, List.append_assoc]
theorem getD_append_left {l r : List Int} {i : Nat} (h : i < l.length) : (l ++ r).getD i 0 = l.getD i 0 := by
  rw [List.getD_eq_getElem?_getD, List.getD_eq_getElem?_getD, List.getElem?_append_left h]
theorem getD_mem {l : List Int} {i : Nat} (h : i < l.length) : l.getD i 0 ∈ l := by
  rw [List.getD_eq_getElem?_getD, List.getElem?_eq_getElem h]; exact List.getElem_mem h
theorem nodup_getD {l : List Int} (nd : l.Nodup) {i j : Nat} (hi : i < l.length) (hj : j < l.length) (e : l.getD i 0 = l.getD j 0) : i = j := by
  rw [List.getD_eq_getElem?_getD, List.getElem?_eq_getElem hi, List.getD_eq_getElem?_getD, List.getElem?_eq_getElem hj] at e
  exact (List.getElem_inj nd).mp e
theorem idx_getD {l : List Int} (nd : l.Nodup) {i : Nat} (hi : i < l.length) : l.idxOf (l.getD i 0) = i := by
  have hm := getD_mem hi
  have h1 := List.idxOf_lt_length_of_mem hm
  apply nodup_getD nd h1 hi
  rw [List.getD_eq_getElem?_getD, List.getElem?_eq_getElem h1]
  exact List.getElem_idxOf h1
theorem getD_idx {l : List Int} {x : Int} (h : x ∈ l) : l.getD (l.idxOf x) 0 = x := by
  have h1 := List.idxOf_lt_length_of_mem h
  rw [List.getD_eq_getElem?_getD, List.getElem?_eq_getElem h1]
  exact List.getElem_idxOf h1
theorem bl_congr {ws ps : List Int} {q v : Int} (hl : ps.length = ws.length) (h : ∀ b, b < ws.length → (ps.getD b 0 = v ↔ ws.getD b 0 = q)) : bl ps v = bl ws q := by
  unfold bl
  rw [hl]
  congr 1
  apply List.filter_congr
  intro b hb
  rw [List.mem_range] at hb
  rw [decide_eq_decide]
  exact h b hb

/-- the tree that a row tells -/
def trT (ws : List Int) : List Int := ws.map fun w => (lnT ws ws.length).getD w.toNat 0
/-- a row that the line can be told of -/
structure PF (ws : List Int) : Prop where
  bd : ∀ w ∈ ws, 0 ≤ w ∧ w < ws.length
  ln : ∀ p : Nat, p ≤ ws.length → p < (lnT ws p).length
theorem getD_mem' {ws : List Int} {b : Nat} (h : b < ws.length) : ws.getD b 0 ∈ ws := getD_mem h
theorem trT_getD {ws : List Int} {b : Nat} (h : b < ws.length) : (trT ws).getD b 0 = (lnT ws ws.length).getD (ws.getD b 0).toNat 0 := by
  unfold trT
  rw [List.getD_eq_getElem?_getD, List.getElem?_map, List.getElem?_eq_getElem h, Option.map_some, Option.getD_some, List.getD_eq_getElem?_getD (l := ws), List.getElem?_eq_getElem h, Option.getD_some]
theorem trT_len (ws : List Int) : (trT ws).length = ws.length := by unfold trT; rw [List.length_map]
theorem tree_line {ws : List Int} (h : PF ws) : ∀ j : Nat, j ≤ ws.length → lnR (trT ws) j = lnT ws j
  | 0, _ => rfl
  | j + 1, hj => by
    have ih := tree_line h j (by omega)
    have hlen := h.ln j (by omega)
    have htot := h.ln ws.length (Nat.le_refl _)
    show lnR (trT ws) j ++ bl (trT ws) ((lnR (trT ws) j).getD j 0) = _
    rw [ih, lnT_succ]
    congr 1
    obtain ⟨r, hr⟩ := lnT_pre ws j ws.length (by omega)
    have e : (lnT ws j).getD j 0 = (lnT ws ws.length).getD j 0 := by rw [hr, getD_append_left hlen]
    rw [e]
    refine bl_congr (trT_len ws) fun b hb => ?_
    rw [trT_getD hb]
    have hw := h.bd _ (getD_mem' hb)
    constructor
    · intro e
      have := nodup_getD (lnT_nodup ws ws.length) (by omega) (by omega) e
      omega
    · intro e; rw [e]; rfl
theorem tree_line_end {ws : List Int} (h : PF ws) : lnR (trT ws) (ws.length + 1) = lnT ws ws.length := by
  show lnR (trT ws) ws.length ++ bl (trT ws) ((lnR (trT ws) ws.length).getD ws.length 0) = _
  rw [tree_line h _ (Nat.le_refl _)]
  have htot := h.ln ws.length (Nat.le_refl _)
  have : bl (trT ws) ((lnT ws ws.length).getD ws.length 0) = [] := by
    apply List.eq_nil_iff_forall_not_mem.mpr
    intro x hx
    obtain ⟨b, hb, _, e⟩ := mem_bl.mp hx
    rw [trT_len] at hb
    rw [trT_getD hb] at e
    have hw := h.bd _ (getD_mem' hb)
    have := nodup_getD (lnT_nodup ws ws.length) (by omega) (by omega) e
    omega
  rw [this, List.append_nil]
/-- the row that a tree is told by -/
def rwR (ps : List Int) : List Int := ps.map fun v => ((lnR ps (ps.length + 1)).idxOf v : Int)
theorem row_of_tree {ws : List Int} (h : PF ws) : rwR (trT ws) = ws := by
  unfold rwR
  rw [trT_len, tree_line_end h]
  unfold trT
  rw [List.map_map]
  have htot := h.ln ws.length (Nat.le_refl _)
  conv => rhs; rw [← List.map_id ws]
  apply List.map_congr_left
  intro w hw
  have hb := h.bd w hw
  show (((lnT ws ws.length).idxOf ((lnT ws ws.length).getD w.toNat 0) : Nat) : Int) = w
  rw [idx_getD (lnT_nodup ws ws.length) (by omega)]
  omega

/-! from the tree: every knot is led to the root -/
/-- going from parent to parent, k times -/
def up (ps : List Int) : Nat → Int → Int
  | 0, x => x
  | k + 1, x => if x = 0 then 0 else up ps k (ps.getD (x - 1).toNat 0)
structure Tree (ps : List Int) : Prop where
  bd : ∀ v ∈ ps, 0 ≤ v ∧ v ≤ ps.length
  led : ∀ x : Int, 0 ≤ x → x ≤ ps.length → ∃ k, up ps k x = 0
theorem lnR_bd {ps : List Int} : ∀ (j : Nat) (x : Int), x ∈ lnR ps j → 0 ≤ x ∧ x ≤ ps.length
  | 0, x, h => by
    have : x = 0 := List.mem_singleton.mp h
    omega
  | j + 1, x, h => by
    rcases List.mem_append.mp h with h | h
    · exact lnR_bd j x h
    · obtain ⟨b, hb, rfl, _⟩ := mem_bl.mp h
      omega
/-- a knot is in the line just when its parent's turn was -/
theorem mem_lnR {ps : List Int} : ∀ (j : Nat), (∀ i, i < j → i < (lnR ps i).length) → ∀ x : Int, x ∈ lnR ps j ↔ x = 0 ∨ ∃ b : Nat, b < ps.length ∧ x = b + 1 ∧ ∃ i, i < j ∧ (lnR ps j).getD i 0 = ps.getD b 0
  | 0, _, x => by
    show x ∈ [(0 : Int)] ↔ _
    rw [List.mem_singleton]
    exact ⟨fun h => .inl h, fun h => h.elim id fun ⟨_, _, _, i, hi, _⟩ => by omega⟩
  | j + 1, hl, x => by
    have ih := mem_lnR j (fun i hi => hl i (by omega)) x
    have hj := hl j (by omega)
    have keep : ∀ i, i < j → (lnR ps (j + 1)).getD i 0 = (lnR ps j).getD i 0 := fun i hi => getD_append_left (r := bl ps ((lnR ps j).getD j 0)) (by omega)
    have keepj : (lnR ps (j + 1)).getD j 0 = (lnR ps j).getD j 0 := getD_append_left (r := bl ps ((lnR ps j).getD j 0)) hj
    show x ∈ lnR ps j ++ _ ↔ _
    rw [List.mem_append, ih, mem_bl]
    constructor
    · rintro ((h | ⟨b, h1, h2, i, h3, h4⟩) | ⟨b, h1, h2, h3⟩)
      · exact .inl h
      · exact .inr ⟨b, h1, h2, i, by omega, by rw [keep i h3]; exact h4⟩
      · exact .inr ⟨b, h1, h2, j, by omega, by rw [keepj]; exact h3.symm⟩
    · rintro (h | ⟨b, h1, h2, i, h3, h4⟩)
      · exact .inl (.inl h)
      · by_cases e : i = j
        · subst e
          rw [keepj] at h4
          exact .inr ⟨b, h1, h2, h4.symm⟩
        · rw [keep i (by omega)] at h4
          exact .inl (.inr ⟨b, h1, h2, i, by omega, h4⟩)
theorem lnR_nodup {ps : List Int} : ∀ (j : Nat), (∀ i, i < j → i < (lnR ps i).length) → (lnR ps j).Nodup
  | 0, _ => by show ([0] : List Int).Nodup; simp
  | j + 1, hl => by
    have nd := lnR_nodup j fun i hi => hl i (by omega)
    have hj := hl j (by omega)
    show (lnR ps j ++ _).Nodup
    rw [List.nodup_append]
    refine ⟨nd, bl_nodup _ _, fun x hx y hy e => ?_⟩
    subst e
    obtain ⟨b, h1, h2, h3⟩ := mem_bl.mp hy
    rcases (mem_lnR j (fun i hi => hl i (by omega)) x).mp hx with h | ⟨c, k1, k2, i, k3, k4⟩
    · omega
    · have : b = c := by omega
      subst this
      rw [h3] at k4
      have := nodup_getD nd (by have := hl i (by omega); obtain ⟨r, hr⟩ := lnR_pre ps i j (by omega); rw [hr, List.length_append]; omega) hj k4
      omega
/-- a set of knots with the root that holds each of its members' children holds all that are led to the root -/
theorem led_all {ps : List Int} (S : Int → Prop) (h0 : S 0) (hc : ∀ b : Nat, b < ps.length → S (ps.getD b 0) → S (b + 1)) : ∀ (k : Nat) (x : Int), 0 ≤ x → x ≤ ps.length → up ps k x = 0 → (∀ v ∈ ps, 0 ≤ v ∧ v ≤ ps.length) → S x
  | 0, x, _, _, h, _ => by
    have : x = 0 := h
    rw [this]; exact h0
  | k + 1, x, a, b, h, bd => by
    by_cases e : x = 0
    · rw [e]; exact h0
    · unfold up at h
      rw [if_neg e] at h
      have hb : (x - 1).toNat < ps.length := by omega
      have hm := bd _ (getD_mem hb)
      have ih := led_all S h0 hc k _ hm.1 hm.2 h bd
      have := hc (x - 1).toNat hb ih
      rw [show (((x - 1).toNat : Nat) : Int) + 1 = x by omega] at this
      exact this
theorem sub_len : ∀ {l m : List Int}, l.Nodup → (∀ x ∈ l, x ∈ m) → l.length ≤ m.length
  | [], _, _, _ => Nat.zero_le _
  | x :: l, m, nd, h => by
    have nd' := List.nodup_cons.mp nd
    have hx := h x List.mem_cons_self
    have ih := sub_len (l := l) (m := m.erase x) nd'.2 fun y hy => (List.mem_erase_of_ne (fun e : y = x => nd'.1 (e ▸ hy))).mpr (h y (List.mem_cons_of_mem _ hy))
    rw [List.length_erase_of_mem hx] at ih
    have := List.length_pos_of_mem hx
    rw [List.length_cons]
    omega
theorem lnR_long {ps : List Int} (h : Tree ps) : ∀ j : Nat, j ≤ ps.length → j < (lnR ps j).length
  | 0, _ => by show 0 < ([0] : List Int).length; decide
  | j + 1, hj => by
    have hl : ∀ i, i < j + 1 → i < (lnR ps i).length := fun i hi => lnR_long h i (by omega)
    apply Nat.lt_of_not_le
    intro hle
    have hgt : j < (lnR ps j).length := hl j (by omega)
    have hge : j + 1 ≤ (lnR ps (j + 1)).length := by
      show _ ≤ (lnR ps j ++ _).length
      rw [List.length_append]; omega
    have hlen : (lnR ps (j + 1)).length = j + 1 := by omega
    have nd := lnR_nodup (ps := ps) (j + 1) hl
    have all : ∀ x : Int, 0 ≤ x → x ≤ ps.length → x ∈ lnR ps (j + 1) := fun x a b => by
      obtain ⟨k, hk⟩ := h.led x a b
      refine led_all (fun x => x ∈ lnR ps (j + 1)) ((mem_lnR (j + 1) hl 0).mpr (.inl rfl)) (fun b hb hp => ?_) k x a b hk h.bd
      have hi := List.idxOf_lt_length_of_mem hp
      exact (mem_lnR (j + 1) hl _).mpr (.inr ⟨b, hb, rfl, _, by omega, getD_idx hp⟩)
    have sub : ((List.range (ps.length + 1)).map (fun b : Nat => (b : Int))) ⊆ lnR ps (j + 1) := fun x hx => by
      obtain ⟨b, hb, rfl⟩ := List.mem_map.mp hx
      rw [List.mem_range] at hb
      exact all b (by omega) (by omega)
    have nd2 : ((List.range (ps.length + 1)).map (fun b : Nat => (b : Int))).Nodup := List.Pairwise.map (fun b : Nat => (b : Int)) (fun a b h e => h (by omega)) List.nodup_range
    have := sub_len nd2 fun x hx => sub hx
    rw [List.length_map, List.length_range] at this
    omega
theorem tree_hl {ps : List Int} (h : Tree ps) : ∀ i, i < ps.length + 1 → i < (lnR ps i).length := fun i hi => lnR_long h i (by omega)
theorem lnR_full {ps : List Int} (h : Tree ps) : (lnR ps ps.length).length = ps.length + 1 ∧ lnR ps (ps.length + 1) = lnR ps ps.length ∧ ∀ x : Int, 0 ≤ x → x ≤ ps.length → x ∈ lnR ps ps.length := by
  have hl := tree_hl h
  have nd := lnR_nodup (ps := ps) (ps.length + 1) hl
  have nd1 := lnR_nodup (ps := ps) ps.length fun i hi => hl i (by omega)
  have up_ : ∀ j, j ≤ ps.length + 1 → (lnR ps j).Nodup → (lnR ps j).length ≤ ps.length + 1 := fun j _ nd => by
    have := sub_len (m := (List.range (ps.length + 1)).map (fun b : Nat => (b : Int))) nd fun x hx => by
      have := lnR_bd j x hx
      exact List.mem_map.mpr ⟨x.toNat, List.mem_range.mpr (by omega), by omega⟩
    rwa [List.length_map, List.length_range] at this
  have a := hl ps.length (by omega)
  have b := up_ ps.length (by omega) nd1
  have c := up_ (ps.length + 1) (by omega) nd
  have e : lnR ps (ps.length + 1) = lnR ps ps.length ++ bl ps ((lnR ps ps.length).getD ps.length 0) := rfl
  have z : bl ps ((lnR ps ps.length).getD ps.length 0) = [] := by
    rw [e, List.length_append] at c
    exact List.eq_nil_of_length_eq_zero (by omega)
  refine ⟨by omega, by rw [e, z, List.append_nil], fun x h0 h1 => ?_⟩
  apply Classical.byContradiction
  intro hx
  have := sub_len (l := x :: lnR ps ps.length) (m := (List.range (ps.length + 1)).map (fun b : Nat => (b : Int))) (List.nodup_cons.mpr ⟨hx, nd1⟩) fun y hy => by
    rcases List.mem_cons.mp hy with r | r
    · exact List.mem_map.mpr ⟨y.toNat, List.mem_range.mpr (by omega), by omega⟩
    · have := lnR_bd _ y r
      exact List.mem_map.mpr ⟨y.toNat, List.mem_range.mpr (by omega), by omega⟩
  rw [List.length_map, List.length_range, List.length_cons] at this
  omega
theorem rwR_len (ps : List Int) : (rwR ps).length = ps.length := by unfold rwR; rw [List.length_map]
theorem rwR_getD {ps : List Int} {b : Nat} (h : b < ps.length) : (rwR ps).getD b 0 = ((lnR ps (ps.length + 1)).idxOf (ps.getD b 0) : Int) := by
  unfold rwR
  rw [List.getD_eq_getElem?_getD, List.getElem?_map, List.getElem?_eq_getElem h, Option.map_some, Option.getD_some, List.getD_eq_getElem?_getD (l := ps), List.getElem?_eq_getElem h, Option.getD_some]
/-- the line of the row that the tree tells is the tree's -/
theorem row_line {ps : List Int} (h : Tree ps) : ∀ j : Nat, j ≤ ps.length → lnT (rwR ps) j = lnR ps j
  | 0, _ => rfl
  | j + 1, hj => by
    have ih := row_line h j (by omega)
    obtain ⟨f1, f2, f3⟩ := lnR_full h
    have nd := lnR_nodup (ps := ps) ps.length fun i hi => tree_hl h i (by omega)
    have hlj := lnR_long h j (by omega)
    rw [lnT_succ, ih]
    show _ = lnR ps j ++ bl ps ((lnR ps j).getD j 0)
    congr 1
    obtain ⟨r, hr⟩ := lnR_pre ps j ps.length (by omega)
    have e : (lnR ps j).getD j 0 = (lnR ps ps.length).getD j 0 := by rw [hr, getD_append_left hlj]
    rw [e]
    refine bl_congr (rwR_len ps) fun b hb => ?_
    rw [rwR_getD hb, f2]
    have hm := h.bd _ (getD_mem hb)
    have hmem := f3 _ hm.1 hm.2
    constructor
    · intro e
      have e' : (lnR ps ps.length).idxOf (ps.getD b 0) = j := by omega
      have := getD_idx hmem
      rw [e'] at this
      exact this.symm
    · intro e
      rw [e, idx_getD nd (by omega)]
theorem row_PF {ps : List Int} (h : Tree ps) : PF (rwR ps) := by
  obtain ⟨f1, f2, f3⟩ := lnR_full h
  have nd := lnR_nodup (ps := ps) ps.length fun i hi => tree_hl h i (by omega)
  refine ⟨fun w hw => ?_, fun p hp => ?_⟩
  · unfold rwR at hw
    obtain ⟨v, hv, rfl⟩ := List.mem_map.mp hw
    rw [f2, rwR_len]
    have hm := h.bd v hv
    have hmem := f3 v hm.1 hm.2
    have hi := List.idxOf_lt_length_of_mem hmem
    refine ⟨by omega, ?_⟩
    -- the last knot of the line has no child
    apply Int.not_le.mp
    intro hge
    have he : (lnR ps ps.length).idxOf v = ps.length := by omega
    have z : bl ps ((lnR ps ps.length).getD ps.length 0) = [] := by
      have c : lnR ps (ps.length + 1) = lnR ps ps.length ++ bl ps ((lnR ps ps.length).getD ps.length 0) := rfl
      rw [f2] at c
      exact (List.append_right_eq_self.mp c.symm)
    have zz := getD_idx hmem
    rw [he] at zz
    rw [zz] at z
    obtain ⟨b, hb, e⟩ := List.getElem_of_mem hv
    have : ((b : Int) + 1) ∈ bl ps v := mem_bl.mpr ⟨b, hb, rfl, by rw [List.getD_eq_getElem?_getD, List.getElem?_eq_getElem hb, e]; rfl⟩
    rw [z] at this
    cases this
  · rw [rwR_len] at hp
    rw [row_line h p hp]
    exact lnR_long h p hp
theorem tree_of_row {ps : List Int} (h : Tree ps) : trT (rwR ps) = ps := by
  obtain ⟨f1, f2, f3⟩ := lnR_full h
  unfold trT
  rw [rwR_len, row_line h _ (Nat.le_refl _)]
  unfold rwR
  rw [List.map_map, f2]
  conv => rhs; rw [← List.map_id ps]
  apply List.map_congr_left
  intro v hv
  have hm := h.bd v hv
  show (lnR ps ps.length).getD (((lnR ps ps.length).idxOf v : Nat) : Int).toNat 0 = v
  rw [Int.toNat_natCast]
  exact getD_idx (f3 v hm.1 hm.2)
end WM

set_option Elab.async false
set_option linter.all false
namespace WM
theorem range_getD (ws : List Int) : (List.range ws.length).map (fun b => ws.getD b 0) = ws := by
  apply List.ext_getElem?
  intro i
  rw [List.getElem?_map]
  by_cases h : i < ws.length
  · rw [List.getElem?_range h, List.getElem?_eq_getElem h, Option.map_some, List.getD_eq_getElem?_getD, List.getElem?_eq_getElem h]; rfl
  · rw [List.getElem?_eq_none (by rw [List.length_range]; omega), List.getElem?_eq_none (by omega)]; rfl
theorem bl_length (ws : List Int) (q : Int) : (bl ws q).length = (ws.filter fun w => decide (w = q)).length := by
  unfold bl
  rw [List.length_map]
  conv => rhs; rw [← range_getD ws, List.filter_map, List.length_map]
  rfl
theorem cnt_split (q : Int) : ∀ ws : List Int, cnt ws q = cnt ws (q + 1) + (ws.filter fun w => decide (w = q)).length
  | [] => rfl
  | w :: ws => by
    rw [cnt_cons, cnt_cons, List.filter_cons, cnt_split q ws]
    by_cases h : w = q
    · subst h
      rw [if_pos (by omega), if_neg (by omega), if_pos (by simp), List.length_cons]; omega
    · rw [if_neg (show ¬ decide (w = q) = true by simpa using h)]
      by_cases g : w ≥ q
      · rw [if_pos g, if_pos (by omega)]; omega
      · rw [if_neg g, if_neg (by omega)]; omega
theorem lnT_length {ws : List Int} (h : ∀ w ∈ ws, 0 ≤ w) : ∀ p : Nat, (lnT ws p).length + cnt ws p = 1 + ws.length
  | 0 => by
    rw [lnT_zero, show ((0 : Nat) : Int) = 0 from rfl, cnt_all h]; rfl
  | p + 1 => by
    have ih := lnT_length h p
    have := cnt_split p ws
    rw [lnT_succ, List.length_append, bl_length]
    rw [show ((p + 1 : Nat) : Int) = (p : Int) + 1 by omega]
    omega
/-- a row can be told of just where no place is too crowded -/
theorem PF_iff {ws : List Int} (h : ∀ w ∈ ws, 0 ≤ w ∧ w < ws.length) : PF ws ↔ ∀ p : Nat, p < ws.length → (cnt ws p : Int) ≤ ws.length - p := by
  have hl := lnT_length fun w hw => (h w hw).1
  constructor
  · intro x p hp
    have := x.ln p (by omega)
    have := hl p
    omega
  · intro x
    refine ⟨h, fun p hp => ?_⟩
    have e := hl p
    by_cases c : p < ws.length
    · have := x p c; omega
    · have : cnt ws p = 0 := cnt_zero fun w hw => by have := (h w hw).2; omega
      omega
/-- the tree told of a row leads every knot to the root -/
theorem pos_parent {ws : List Int} (h : PF ws) {b : Nat} (hb : b < ws.length) : (ws.getD b 0).toNat < (lnT ws ws.length).idxOf ((b : Int) + 1) := by
  have hw := h.bd _ (getD_mem hb)
  have hl := h.ln (ws.getD b 0).toNat (by omega)
  obtain ⟨r, hr⟩ := lnT_pre ws (ws.getD b 0).toNat ws.length (by omega)
  have hn : ((b : Int) + 1) ∉ lnT ws (ws.getD b 0).toNat := fun hm => by
    rcases mem_lnT.mp hm with e | ⟨c, _, e, _, k⟩
    · omega
    · have : b = c := by omega
      subst this
      omega
  rw [hr, List.idxOf_append, if_neg hn]
  omega
theorem led_up {ws : List Int} (h : PF ws) : ∀ (k : Nat) (x : Int), 0 ≤ x → x ≤ ws.length → (lnT ws ws.length).idxOf x ≤ k → up (trT ws) k x = 0
  | 0, x, h0, h1, hk => by
    show x = 0
    apply Classical.byContradiction
    intro e
    have := pos_parent h (b := (x - 1).toNat) (by omega)
    rw [show (((x - 1).toNat : Nat) : Int) + 1 = x by omega] at this
    omega
  | k + 1, x, h0, h1, hk => by
    unfold up
    by_cases e : x = 0
    · rw [if_pos e]
    · rw [if_neg e]
      have hb : (x - 1).toNat < ws.length := by omega
      have hp := pos_parent h hb
      rw [show (((x - 1).toNat : Nat) : Int) + 1 = x by omega] at hp
      have hw := h.bd _ (getD_mem hb)
      have ht := h.ln ws.length (Nat.le_refl _)
      rw [trT_getD hb]
      have hm := getD_mem (l := lnT ws ws.length) (i := (ws.getD (x - 1).toNat 0).toNat) (by omega)
      have hx := mem_lnT.mp hm
      refine led_up h k _ ?_ ?_ ?_
      · rcases hx with r | ⟨c, _, r, _⟩ <;> omega
      · rcases hx with r | ⟨c, _, r, _⟩ <;> omega
      · rw [idx_getD (lnT_nodup ws ws.length) (by omega)]; omega
theorem trT_tree {ws : List Int} (h : PF ws) : (∀ v ∈ trT ws, 0 ≤ v ∧ v ≤ ws.length) ∧ ∀ x : Int, 0 ≤ x → x ≤ ws.length → up (trT ws) ws.length x = 0 := by
  have ht := h.ln ws.length (Nat.le_refl _)
  refine ⟨fun v hv => ?_, fun x h0 h1 => led_up h _ x h0 h1 ?_⟩
  · unfold trT at hv
    obtain ⟨w, hw, rfl⟩ := List.mem_map.mp hv
    have := h.bd w hw
    rcases mem_lnT.mp (getD_mem (l := lnT ws ws.length) (i := w.toNat) (by omega)) with r | ⟨c, _, r, _⟩ <;> omega
  · have hlen := lnT_length (fun w hw => (h.bd w hw).1) ws.length
    have hm : x ∈ lnT ws ws.length := by
      by_cases e : x = 0
      · exact mem_lnT.mpr (.inl e)
      · refine mem_lnT.mpr (.inr ⟨(x - 1).toNat, by omega, by omega, ?_⟩)
        have := h.bd _ (getD_mem (l := ws) (i := (x - 1).toNat) (by omega))
        omega
    have := List.idxOf_lt_length_of_mem hm
    omega
end WM

set_option Elab.async false
set_option linter.all false
namespace WM
/-! ### how many rows lead to an outcome -/
def rowsN (n : Nat) : Nat → List (List Int)
  | 0 => [[]]
  | k + 1 => (rowsN n k).flatMap fun r => (irange 0 n).map fun w => r ++ [w]
theorem rowsN_len {n : Nat} : ∀ {k : Nat} {r : List Int}, r ∈ rowsN n k → r.length = k
  | 0, r, h => by have : r = [] := List.mem_singleton.mp h; rw [this]; rfl
  | k + 1, r, h => by
    obtain ⟨q, hq, h⟩ := List.mem_flatMap.mp h
    obtain ⟨w, _, rfl⟩ := List.mem_map.mp h
    rw [List.length_append, rowsN_len hq]; rfl
theorem within_snoc {l p w : Int} : ∀ {ls ps ws : List Int}, ls.length = ps.length → ls.length = ws.length → within (ls ++ [l]) (ps ++ [p]) (ws ++ [w]) = (within ls ps ws && decide (l ≤ w ∧ w ≤ p))
  | [], [], [], _, _ => by simp [within]
  | a :: ls, b :: ps, c :: ws, h1, h2 => by
    have ih := within_snoc (l := l) (p := p) (w := w) (ls := ls) (ps := ps) (ws := ws) (by simpa using h1) (by simpa using h2)
    show within (a :: (ls ++ [l])) (b :: (ps ++ [p])) (c :: (ws ++ [w])) = _
    unfold within
    rw [ih, Bool.and_assoc]
theorem irange_within (l p : Int) : ∀ n : Nat, 0 ≤ l → l ≤ p → p < n → (((irange 0 n).filter fun w => decide (l ≤ w ∧ w ≤ p)).length : Int) = p - l + 1 := by
  intro n h0 h1 h2
  have key : ∀ m : Nat, (((irange 0 m).filter fun w => decide (l ≤ w ∧ w ≤ p)).length : Int) = if (m : Int) ≤ l then 0 else if (m : Int) ≤ p + 1 then m - l else p - l + 1 := by
    intro m
    induction m with
    | zero => rw [irange_zero, if_pos (by omega)]; rfl
    | succ m ih =>
      rw [irange_snoc, List.filter_append, List.length_append, Int.natCast_add, ih, List.filter_cons]
      by_cases c : l ≤ 0 + (m : Int) ∧ 0 + (m : Int) ≤ p
      · rw [if_pos (decide_eq_true c)]
        show _ + ((1 : Nat) : Int) = _
        rw [if_neg (show ¬ ((m + 1 : Nat) : Int) ≤ l by omega), if_pos (show ((m + 1 : Nat) : Int) ≤ p + 1 by omega)]
        by_cases d : (m : Int) ≤ l
        · rw [if_pos d]; omega
        · rw [if_neg d, if_pos (by omega)]; omega
      · rw [if_neg (show ¬ decide (l ≤ 0 + (m : Int) ∧ 0 + (m : Int) ≤ p) = true from fun z => c (of_decide_eq_true z))]
        show _ + ((0 : Nat) : Int) = _
        split <;> split <;> (try split) <;> (try split) <;> omega
  rw [key n, if_neg (by omega)]
  by_cases f : (n : Int) ≤ p + 1
  · rw [if_pos f]; omega
  · rw [if_neg f]
def spanP (t : Int) : List Int → List Int → Int
  | l :: ls, p :: ps => spanP (t * (p - l + 1)) ls ps
  | _, _ => t
theorem spanP_snoc {l p : Int} : ∀ {ls ps : List Int} {t : Int}, ls.length = ps.length → spanP t (ls ++ [l]) (ps ++ [p]) = spanP t ls ps * (p - l + 1)
  | [], [], t, _ => rfl
  | a :: ls, b :: ps, t, h => spanP_snoc (ls := ls) (ps := ps) (by simpa using h)
theorem sum_flat {α : Type} (f : α → List (List Int)) (P : List Int → Bool) (G : α → Bool) (c : Nat) : ∀ (L : List α), (∀ a ∈ L, ((f a).filter P).length = if G a then c else 0) → ((L.flatMap f).filter P).length = (L.filter G).length * c
  | [], _ => by simp
  | a :: L, h => by
    rw [List.flatMap_cons, List.filter_append, List.length_append, sum_flat f P G c L fun b hb => h b (List.mem_cons_of_mem _ hb), h a List.mem_cons_self, List.filter_cons]
    by_cases g : G a = true
    · rw [if_pos g, if_pos g, List.length_cons, Nat.succ_mul]; omega
    · rw [if_neg g, if_neg g]; omega
theorem count_rows (n : Nat) : ∀ (ls ps : List Int), ls.length = ps.length → (∀ i : Nat, i < ps.length → 0 ≤ ls.getD i 0 ∧ ls.getD i 0 ≤ ps.getD i 0 ∧ ps.getD i 0 < n) →
    (((rowsN n ps.length).filter (within ls ps)).length : Int) = spanP 1 ls ps := by
  intro ls ps
  revert ls
  refine rev_ind (P := fun ps => ∀ ls : List Int, ls.length = ps.length → (∀ i : Nat, i < ps.length → 0 ≤ ls.getD i 0 ∧ ls.getD i 0 ≤ ps.getD i 0 ∧ ps.getD i 0 < n) → (((rowsN n ps.length).filter (within ls ps)).length : Int) = spanP 1 ls ps) ?_ ?_ ps
  · intro ls hl _
    have : ls = [] := List.eq_nil_of_length_eq_zero hl
    subst this
    rfl
  · intro ps p ih ls hl hb
    rw [List.length_append, List.length_singleton] at hl
    obtain ⟨ls', l, rfl⟩ : ∃ ls' l, ls = ls' ++ [l] := by
      refine ⟨ls.dropLast, ls.getLast (by intro e; rw [e] at hl; simp at hl), (List.dropLast_concat_getLast _).symm⟩
    have hl' : ls'.length = ps.length := by rw [List.length_append, List.length_singleton] at hl; omega
    have hbl := hb ps.length (by rw [List.length_append, List.length_singleton]; omega)
    have e1 : (ls' ++ [l]).getD ps.length 0 = l := by rw [List.getD_eq_getElem?_getD, List.getElem?_append_right (by omega), hl', Nat.sub_self]; rfl
    have e2 : (ps ++ [p]).getD ps.length 0 = p := by rw [List.getD_eq_getElem?_getD, List.getElem?_append_right (by omega), Nat.sub_self]; rfl
    rw [e1, e2] at hbl
    have ih' := ih ls' hl' fun i hi => by
      have := hb i (by rw [List.length_append]; omega)
      rw [getD_append_left (by omega), getD_append_left hi] at this
      exact this
    rw [spanP_snoc hl', ← ih', List.length_append, List.length_singleton]
    have hc := irange_within l p n hbl.1 hbl.2.1 hbl.2.2
    have := sum_flat (fun r => (irange 0 n).map fun w => r ++ [w]) (within (ls' ++ [l]) (ps ++ [p])) (within ls' ps) ((irange 0 n).filter fun w => decide (l ≤ w ∧ w ≤ p)).length (rowsN n ps.length) fun r hr => by
      have hrl := rowsN_len hr
      rw [List.filter_map, List.length_map]
      have : (within (ls' ++ [l]) (ps ++ [p]) ∘ fun w => r ++ [w]) = fun w => within ls' ps r && decide (l ≤ w ∧ w ≤ p) := by
        funext w
        exact within_snoc hl' (by omega)
      rw [this]
      by_cases g : within ls' ps r = true
      · rw [if_pos g]
        congr 1
        apply List.filter_congr
        intro w _
        rw [g, Bool.true_and]
      · rw [if_neg g]
        have g : within ls' ps r = false := by simpa using g
        rw [g]
        simp
    show ((((rowsN n ps.length).flatMap fun r => (irange 0 n).map fun w => r ++ [w]).filter _).length : Int) = _
    rw [this, Int.natCast_mul, hc]
end WM

set_option Elab.async false
set_option linter.all false
namespace WM
/-! ### rows in order -/
/-- no place is too crowded -/
def Fits (ws : List Int) : Prop := ∀ p : Nat, p < ws.length → (cnt ws p : Int) ≤ ws.length - p
/-- u goes first: a lesser wish at the first boat at which they part -/
def Lex (u v : List Int) : Prop := ∃ d : Nat, d < u.length ∧ (∀ i, i < d → u.getD i 0 = v.getD i 0) ∧ u.getD d 0 < v.getD d 0
theorem cnt_le {p : Int} : ∀ {u v : List Int}, u.length = v.length → (∀ i, i < u.length → u.getD i 0 ≤ v.getD i 0) → cnt u p ≤ cnt v p
  | [], [], _, _ => Nat.le_refl _
  | a :: u, b :: v, hl, h => by
    have ih := cnt_le (p := p) (u := u) (v := v) (by simpa using hl) fun i hi => by
      have := h (i + 1) (by rw [List.length_cons]; omega)
      simpa using this
    have h0 : a ≤ b := by simpa using h 0 (by simp)
    rw [cnt_cons, cnt_cons]
    by_cases c : a ≥ p
    · rw [if_pos c, if_pos (by omega)]; omega
    · rw [if_neg c]; split <;> omega
theorem Fits.le {u v : List Int} (hl : u.length = v.length) (h : ∀ i, i < u.length → u.getD i 0 ≤ v.getD i 0) (f : Fits v) : Fits u := fun p hp => by
  have a := f p (by omega)
  have b := cnt_le (p := (p : Int)) hl h
  omega
/-- the candidate: ws up to at, then x, then noughts -/
def cand (ws : List Int) (at_ : Nat) (x : Int) : List Int := ws.take at_ ++ x :: List.replicate (ws.length - 1 - at_) 0
theorem cand_len {ws : List Int} {at_ : Nat} {x : Int} (h : at_ < ws.length) : (cand ws at_ x).length = ws.length := by
  unfold cand
  rw [List.length_append, List.length_cons, List.length_take, List.length_replicate]; omega
theorem cand_get {ws : List Int} {at_ : Nat} {x : Int} (h : at_ < ws.length) (i : Nat) : (cand ws at_ x).getD i 0 = if i < at_ then ws.getD i 0 else if i = at_ then x else 0 := by
  unfold cand
  have ht : (ws.take at_).length = at_ := by rw [List.length_take]; omega
  by_cases c : i < at_
  · rw [if_pos c, getD_append_left (by omega), List.getD_eq_getElem?_getD, List.getD_eq_getElem?_getD, List.getElem?_take_of_lt c]
  · rw [if_neg c, List.getD_eq_getElem?_getD, List.getElem?_append_right (by omega), ht]
    by_cases e : i = at_
    · rw [if_pos e, e, Nat.sub_self]; rfl
    · rw [if_neg e]
      obtain ⟨k, hk⟩ : ∃ k, i - at_ = k + 1 := ⟨i - at_ - 1, by omega⟩
      rw [hk, List.getElem?_cons_succ, List.getElem?_replicate]
      split <;> rfl
/-- what the search for the next row finds -/
def NextIs (ws : List Int) : Option (List Int) → Prop
  | none => ∀ at_ : Nat, at_ < ws.length → ∀ y : Int, ws.getD at_ 0 < y → y < ws.length → ¬ Fits (cand ws at_ y)
  | some v => ∃ (at_ : Nat) (x : Int), at_ < ws.length ∧ v = cand ws at_ x ∧ ws.getD at_ 0 < x ∧ x < ws.length ∧ Fits v ∧
      (∀ a' : Nat, at_ < a' → a' < ws.length → ∀ y : Int, ws.getD a' 0 < y → y < ws.length → ¬ Fits (cand ws a' y)) ∧ ∀ y : Int, ws.getD at_ 0 < y → y < x → ¬ Fits (cand ws at_ y)
structure Row (n : Nat) (ws : List Int) : Prop where
  len : ws.length = n
  bd : ∀ i, i < n → 0 ≤ ws.getD i 0 ∧ ws.getD i 0 < n
  fit : Fits ws
theorem cand_fits {n : Nat} {ws u : List Int} (hl : ws.length = n) (hu : Row n u) {d : Nat} (hd : d < n) (he : ∀ i, i < d → ws.getD i 0 = u.getD i 0) : Fits (cand ws d (u.getD d 0)) := by
  refine Fits.le (v := u) (by rw [cand_len (by omega), hl, hu.len]) (fun i hi => ?_) hu.fit
  rw [cand_len (by omega)] at hi
  rw [cand_get (by omega)]
  have := hu.bd i (by omega)
  by_cases c : i < d
  · rw [if_pos c, he i c]; exact Int.le_refl _
  · rw [if_neg c]
    by_cases e : i = d
    · rw [if_pos e, e]; exact Int.le_refl _
    · rw [if_neg e]; exact this.1
theorem next_none {n : Nat} {ws u : List Int} (hl : ws.length = n) (h : NextIs ws none) (hu : Row n u) : ¬ Lex ws u := by
  rintro ⟨d, h1, h2, h3⟩
  exact h d h1 (u.getD d 0) h3 (by rw [hl]; exact (hu.bd d (by omega)).2) (cand_fits hl hu (by omega) h2)
theorem ext_getD {u v : List Int} (hl : u.length = v.length) (h : ∀ i, i < u.length → u.getD i 0 = v.getD i 0) : u = v := by
  apply List.ext_getElem hl
  intro i h1 h2
  have := h i h1
  rwa [List.getD_eq_getElem?_getD, List.getD_eq_getElem?_getD, List.getElem?_eq_getElem h1, List.getElem?_eq_getElem h2] at this
theorem next_some {n : Nat} {ws v : List Int} (hw : Row n ws) (h : NextIs ws (some v)) : Row n v ∧ Lex ws v ∧ ∀ u, Row n u → Lex ws u → u = v ∨ Lex v u := by
  obtain ⟨a, x, ha, rfl, hx, hxn, hf, h1, h2⟩ := h
  have hl := hw.len
  refine ⟨⟨by rw [cand_len ha]; exact hl, fun i hi => ?_, hf⟩, ⟨a, ha, fun i hi => ?_, ?_⟩, fun u hu hlu => ?_⟩
  · rw [cand_get ha]
    have := hw.bd i hi
    have := hw.bd a (by omega)
    split
    · omega
    · split <;> omega
  · rw [cand_get ha, if_pos hi]
  · rw [cand_get ha, if_neg (Nat.lt_irrefl _), if_pos rfl]; exact hx
  · obtain ⟨d, k1, k2, k3⟩ := hlu
    have hc := cand_fits hl hu (by omega) k2
    have hud := hu.bd d (by omega)
    have had : d ≤ a := Nat.le_of_not_lt fun c => h1 d c k1 _ k3 (by omega) hc
    by_cases e : d = a
    · subst e
      by_cases c : u.getD d 0 < x
      · exact absurd hc (h2 _ k3 c)
      · by_cases c' : x < u.getD d 0
        · refine .inr ⟨d, by rw [cand_len ha]; exact k1, fun i hi => ?_, ?_⟩
          · rw [cand_get ha, if_pos hi]; exact k2 i hi
          · rw [cand_get ha, if_neg (Nat.lt_irrefl _), if_pos rfl]; exact c'
        · have ex : u.getD d 0 = x := by omega
          -- the first place behind d at which u is not nought
          by_cases z : ∀ i, d < i → i < n → u.getD i 0 = 0
          · left
            refine ext_getD (by rw [cand_len ha, hl, hu.len]) fun i hi => ?_
            rw [hu.len] at hi
            rw [cand_get ha]
            by_cases c1 : i < d
            · rw [if_pos c1]; exact (k2 i c1).symm
            · rw [if_neg c1]
              by_cases c2 : i = d
              · rw [if_pos c2, c2]; exact ex
              · rw [if_neg c2]; exact z i (by omega) hi
          · right
            have : ∃ i, d < i ∧ i < n ∧ u.getD i 0 ≠ 0 := by
              apply Classical.byContradiction
              intro q
              exact z fun i a b => Classical.byContradiction fun c => q ⟨i, a, b, c⟩
            have least : ∀ m, (∃ i, d < i ∧ i < n ∧ u.getD i 0 ≠ 0 ∧ i ≤ m) → ∃ i, d < i ∧ i < n ∧ u.getD i 0 ≠ 0 ∧ ∀ j, d < j → j < i → u.getD j 0 = 0 := by
              intro m
              induction m with
              | zero => rintro ⟨i, a, _, _, b⟩; omega
              | succ m ih =>
                rintro ⟨i, a, b, c, e⟩
                by_cases q : ∃ i, d < i ∧ i < n ∧ u.getD i 0 ≠ 0 ∧ i ≤ m
                · exact ih q
                · refine ⟨i, a, b, c, fun j hj hji => Classical.byContradiction fun w => q ⟨j, hj, by omega, w, by omega⟩⟩
            obtain ⟨i0, a0, b0, c0⟩ := this
            obtain ⟨i, a1, b1, c1, z1⟩ := least i0 ⟨i0, a0, b0, c0, Nat.le_refl _⟩
            refine ⟨i, by rw [cand_len ha]; omega, fun j hj => ?_, ?_⟩
            · rw [cand_get ha]
              by_cases g1 : j < d
              · rw [if_pos g1]; exact k2 j g1
              · rw [if_neg g1]
                by_cases g2 : j = d
                · rw [if_pos g2, g2]; exact ex.symm
                · rw [if_neg g2]; exact (z1 j (by omega) hj).symm
            · rw [cand_get ha, if_neg (by omega), if_neg (by omega)]
              have := hu.bd i b1
              omega
    · right
      refine ⟨d, by rw [cand_len ha]; exact k1, fun i hi => ?_, ?_⟩
      · rw [cand_get ha, if_pos (by omega)]; exact k2 i hi
      · rw [cand_get ha, if_pos (by omega)]; exact k3
end WM

set_option Elab.async false
set_option linter.all false
namespace WM
/-- the least wish of boat i of an outcome -/
def lowAt (ps : List Int) (i : Nat) : Int := low (fun x => decide (x ∈ ps.take i)) ((ps.getD i 0).toNat + 1) (ps.getD i 0)
/-- the ways of the first k boats -/
def waysOf (ps : List Int) : Nat → Int
  | 0 => 1
  | k + 1 => waysOf ps k * (ps.getD k 0 - lowAt ps k + 1)
theorem perm_bd {ps : List Int} {n : Nat} (pp : ps.Perm (irange 0 n)) : ps.length = n ∧ ps.Nodup ∧ ∀ p ∈ ps, 0 ≤ p ∧ p < n := by
  refine ⟨by rw [pp.length_eq, irange_length], pp.nodup_iff.mpr ((irange_sorted 0 n).imp fun h e => by omega), fun p hp => ?_⟩
  have := mem_irange.mp (pp.mem_iff.mp hp)
  omega
theorem low_in {ps : List Int} {n k : Nat} (pp : ps.Perm (irange 0 n)) (hk : k < n) : 0 ≤ lowAt ps k ∧ lowAt ps k ≤ ps.getD k 0 ∧ ps.getD k 0 < n := by
  obtain ⟨hl, _, hb⟩ := perm_bd pp
  have hp := hb _ (getD_mem (l := ps) (i := k) (by omega))
  unfold lowAt
  have hT : ∀ x, (fun x => decide (x ∈ ps.take k)) x = true → 0 ≤ x := fun x hx => (hb x (List.mem_of_mem_take (of_decide_eq_true hx))).1
  exact ⟨(low_free hT hp.1 (by omega)).1, (low_spec _ _ _).1, hp.2⟩
end WM

set_option Elab.async false
set_option linter.all false
namespace WM
theorem lows_getD : ∀ (ps : List Int) (T : Int → Bool) (k : Nat), k < ps.length → (lows T ps).getD k 0 = low (fun x => decide (x ∈ ps.take k) || T x) ((ps.getD k 0).toNat + 1) (ps.getD k 0)
  | [], _, k, h => by simp at h
  | p :: r, T, 0, _ => by
    have : (fun x => decide (x ∈ List.take 0 (p :: r)) || T x) = T := by funext x; simp
    rw [this]; rfl
  | p :: r, T, k + 1, h => by
    have ih := lows_getD r (tk T (some p)) k (by simpa using h)
    have e : (fun x => decide (x ∈ List.take (k + 1) (p :: r)) || T x) = fun x => decide (x ∈ r.take k) || tk T (some p) x := by
      funext x
      show _ = (decide (x ∈ r.take k) || (decide (x = p) || T x))
      rw [List.take_succ_cons]
      by_cases a : x = p <;> by_cases b : x ∈ r.take k <;> simp [a, b]
    rw [e]
    unfold lows
    simpa using ih
theorem within_iff : ∀ {ls ps ws : List Int}, ls.length = ps.length → (within ls ps ws = true ↔ ws.length = ps.length ∧ ∀ k, k < ps.length → ls.getD k 0 ≤ ws.getD k 0 ∧ ws.getD k 0 ≤ ps.getD k 0)
  | [], [], [], _ => by simp [within]
  | [], [], w :: ws, _ => by simp [within]
  | l :: ls, p :: ps, [], _ => by simp [within]
  | l :: ls, p :: ps, w :: ws, h => by
    have ih := within_iff (ls := ls) (ps := ps) (ws := ws) (by simpa using h)
    unfold within
    rw [Bool.and_eq_true, decide_eq_true_iff, ih]
    constructor
    · rintro ⟨a, b, c⟩
      refine ⟨by simp [b], fun k hk => ?_⟩
      cases k with
      | zero => simpa using a
      | succ k => simpa using c k (by simpa using hk)
    · rintro ⟨b, c⟩
      refine ⟨by simpa using c 0 (by simp), by simpa using b, fun k hk => ?_⟩
      simpa using c (k + 1) (by simpa using hk)
/-- the rows that lead to an outcome are just those within its spans -/
theorem leads {ps : List Int} {n : Nat} (pp : ps.Perm (irange 0 n)) (ws : List Int) : mo n ws none0 = ps.map some ↔ ws.length = n ∧ ∀ k, k < n → lowAt ps k ≤ ws.getD k 0 ∧ ws.getD k 0 ≤ ps.getD k 0 := by
  obtain ⟨hl, nd, hb⟩ := perm_bd pp
  rw [mo_iff n ps none0 ws (fun p hp => ⟨(hb p hp).1, (hb p hp).2, rfl⟩) nd (fun x hx => by cases hx), within_iff (lows_length ps none0), hl]
  have e : ∀ k, k < n → (lows none0 ps).getD k 0 = lowAt ps k := fun k hk => by
    rw [lows_getD ps none0 k (by omega)]
    unfold lowAt
    have : (fun x => decide (x ∈ ps.take k) || none0 x) = fun x => decide (x ∈ ps.take k) := by funext x; simp [none0]
    rw [this]
  constructor
  · rintro ⟨a, b⟩; exact ⟨a, fun k hk => by have := b k hk; rwa [e k hk] at this⟩
  · rintro ⟨a, b⟩; exact ⟨a, fun k hk => by have := b k hk; rwa [e k hk]⟩
theorem waysOf_spanP {ps : List Int} : ∀ {ls qs : List Int} (k : Nat), ls.length = k → qs.length = k → (∀ i, i < k → ls.getD i 0 = lowAt ps i ∧ qs.getD i 0 = ps.getD i 0) → spanP 1 ls qs = waysOf ps k := by
  intro ls qs k
  revert ls qs
  induction k with
  | zero =>
    intro ls qs h1 h2 _
    rw [List.eq_nil_of_length_eq_zero h1, List.eq_nil_of_length_eq_zero h2]; rfl
  | succ k ih =>
    intro ls qs h1 h2 h
    obtain ⟨ls', l, rfl⟩ : ∃ ls' l, ls = ls' ++ [l] := ⟨ls.dropLast, ls.getLast (by intro e; rw [e] at h1; simp at h1), (List.dropLast_concat_getLast _).symm⟩
    obtain ⟨qs', q, rfl⟩ : ∃ qs' q, qs = qs' ++ [q] := ⟨qs.dropLast, qs.getLast (by intro e; rw [e] at h2; simp at h2), (List.dropLast_concat_getLast _).symm⟩
    rw [List.length_append, List.length_singleton] at h1 h2
    have g1 : (ls' ++ [l]).getD k 0 = l := by rw [List.getD_eq_getElem?_getD, List.getElem?_append_right (by omega), show k - ls'.length = 0 by omega]; rfl
    have g2 : (qs' ++ [q]).getD k 0 = q := by rw [List.getD_eq_getElem?_getD, List.getElem?_append_right (by omega), show k - qs'.length = 0 by omega]; rfl
    have hk := h k (by omega)
    rw [g1, g2] at hk
    rw [spanP_snoc (by omega), ih (by omega) (by omega) fun i hi => by
      have := h i (by omega)
      rwa [getD_append_left (by omega), getD_append_left (by omega)] at this]
    show _ = waysOf ps k * (ps.getD k 0 - lowAt ps k + 1)
    rw [hk.1, hk.2]
/-- the ways are as many as the rows that lead to the outcome -/
theorem ways_count {ps : List Int} {n : Nat} (pp : ps.Perm (irange 0 n)) : (((rowsN n n).filter fun ws => decide (mo n ws none0 = ps.map some)).length : Int) = waysOf ps n := by
  obtain ⟨hl, nd, hb⟩ := perm_bd pp
  have e : ∀ k, k < n → (lows none0 ps).getD k 0 = lowAt ps k := fun k hk => by
    rw [lows_getD ps none0 k (by omega)]
    unfold lowAt
    have : (fun x => decide (x ∈ ps.take k) || none0 x) = fun x => decide (x ∈ ps.take k) := by funext x; simp [none0]
    rw [this]
  have c := count_rows n (lows none0 ps) ps (lows_length ps none0) fun i hi => by
    have := low_in pp (k := i) (by omega)
    rw [e i (by omega)]; exact this
  rw [hl] at c
  rw [waysOf_spanP n (by rw [lows_length]; exact hl) hl fun i hi => ⟨e i hi, rfl⟩] at c
  rw [← c]
  congr 2
  apply List.filter_congr
  intro ws _
  rw [Bool.eq_iff_iff, decide_eq_true_iff]
  exact mo_iff n ps none0 ws (fun p hp => ⟨(hb p hp).1, (hb p hp).2, rfl⟩) nd (fun x hx => by cases hx)
end WM

set_option Elab.async false
set_option linter.all false
namespace WM
theorem PF_of_whole {n : Nat} {ws : List Int} (hl : ws.length = n) (hb : ∀ w ∈ ws, 0 ≤ w ∧ w < n) : none ∉ mo n ws none0 ↔ PF ws := by
  have h1 := whole_iff n ws hb
  rw [PF_iff (by rw [hl]; exact hb), hl]
  constructor
  · intro h p hp
    have : lastP (many n ws) n = none := Classical.byContradiction fun c => h (h1.mpr c)
    have := lastP_none.mp this p hp
    unfold many at this
    have := of_decide_eq_false this
    omega
  · intro h c
    refine h1.mp c (lastP_none.mpr fun p hp => ?_)
    unfold many
    exact decide_eq_false (by have := h p hp; omega)
theorem turn_bd {n : Nat} {b : Int} {ws : List Int} (hl : ws.length = n) : (turn (n + 1) b ws).length = n ∧ ∀ w ∈ turn (n + 1) b ws, 0 ≤ w ∧ w ≤ n := by
  unfold turn
  refine ⟨by rw [List.length_map]; exact hl, fun w hw => ?_⟩
  obtain ⟨v, _, rfl⟩ := List.mem_map.mp hw
  have h1 := Int.emod_nonneg (v + b) (show ((n + 1 : Nat) : Int) ≠ 0 by omega)
  have h2 := Int.emod_lt_of_pos (v + b) (show (0 : Int) < ((n + 1 : Nat) : Int) by omega)
  omega
/-- a ring's row turned by its luck can be told of -/
theorem luck_PF {n : Nat} {ws : List Int} (hl : ws.length = n) : PF (turn (n + 1) (n - lf n ws) ws) := by
  obtain ⟨a1, a2, _⟩ := lf_spec n ws hl
  have h := (luck_one n ws hl (n - lf n ws) (by omega) (by omega)).mpr rfl
  obtain ⟨tl, tb⟩ := turn_bd (b := n - lf n ws) hl
  refine (PF_of_whole tl fun w hw => ?_).mp h
  have hb := tb w hw
  refine ⟨hb.1, ?_⟩
  apply Int.not_le.mp
  intro hge
  have : w = n := by omega
  subst this
  exact h (last_none n _ none0 hw)
end WM

set_option Elab.async false
set_option linter.all false
namespace WM
/-- parents told along an order of the knots, each behind its parent, make a tree -/
theorem tree_order {order ps : List Int} {n : Nat} (hl : ps.length = n) (ho : order.length = n + 1) (h0 : order.getD 0 0 = 0) (hb : ∀ i, i < n + 1 → 0 ≤ order.getD i 0 ∧ order.getD i 0 ≤ n) (hs : ∀ x : Int, 0 ≤ x → x ≤ n → ∃ i, i < n + 1 ∧ order.getD i 0 = x)
    (hp : ∀ t, 1 ≤ t → t ≤ n → ∃ b, b < t ∧ ps.getD (order.getD t 0 - 1).toNat 0 = order.getD b 0) : Tree ps := by
  refine ⟨fun v hv => ?_, fun x hx0 hx1 => ?_⟩
  · obtain ⟨k, hk, e⟩ := List.getElem_of_mem hv
    obtain ⟨t, ht, et⟩ := hs (k + 1) (by omega) (by omega)
    have t1 : 1 ≤ t := by
      apply Nat.one_le_iff_ne_zero.mpr
      intro z; subst z; rw [h0] at et; omega
    obtain ⟨b, hbt, eb⟩ := hp t t1 (by omega)
    rw [et, show ((k : Int) + 1 - 1).toNat = k by omega, List.getD_eq_getElem?_getD, List.getElem?_eq_getElem hk, e] at eb
    have eb : v = order.getD b 0 := eb
    rw [eb, hl]
    exact hb b (by omega)
  · rw [hl] at hx1
    obtain ⟨t, ht, et⟩ := hs x hx0 hx1
    have key : ∀ t, t < n + 1 → ∃ k, up ps k (order.getD t 0) = 0 := by
      intro t
      induction t using Nat.strongRecOn with
      | ind t ih =>
        intro ht
        by_cases e : order.getD t 0 = 0
        · exact ⟨0, e⟩
        · have t1 : 1 ≤ t := Nat.one_le_iff_ne_zero.mpr fun z => e (by rw [z]; exact h0)
          obtain ⟨b, hbt, eb⟩ := hp t t1 (by omega)
          obtain ⟨k, hk⟩ := ih b hbt (by omega)
          refine ⟨k + 1, ?_⟩
          unfold up
          rw [if_neg e, eb]; exact hk
    obtain ⟨k, hk⟩ := key t ht
    exact ⟨k, by rw [← et]; exact hk⟩
/-- the root, then the knots in an order -/
def ordK (ks : List Int) : List Int := 0 :: ks.map (fun k : Int => k + 1)
theorem order_facts {ks : List Int} {n : Nat} (pk : ks.Perm (irange 0 n)) : (ordK ks).length = n + 1 ∧ (ordK ks).Nodup ∧ (∀ i, i < n + 1 → 0 ≤ (ordK ks).getD i 0 ∧ (ordK ks).getD i 0 ≤ n) ∧ (∀ i, 1 ≤ i → i < n + 1 → 1 ≤ (ordK ks).getD i 0) ∧
    ∀ x : Int, 0 ≤ x → x ≤ n → ∃ i, i < n + 1 ∧ (ordK ks).getD i 0 = x := by
  obtain ⟨hl, nd, hb⟩ := perm_bd pk
  have hlen : (ordK ks).length = n + 1 := by unfold ordK; rw [List.length_cons, List.length_map, hl]
  have hpos : ∀ x ∈ ks.map (fun k : Int => k + 1), 1 ≤ x ∧ x ≤ n := fun x hx => by
    obtain ⟨k, hk, rfl⟩ := List.mem_map.mp hx
    have := hb k hk
    omega
  have at1 : ∀ i, 1 ≤ i → i < n + 1 → 1 ≤ (ordK ks).getD i 0 ∧ (ordK ks).getD i 0 ≤ n := fun i h1 h2 => by
    obtain ⟨j, rfl⟩ : ∃ j, i = j + 1 := ⟨i - 1, by omega⟩
    have e : (ordK ks).getD (j + 1) 0 = (ks.map (fun k : Int => k + 1)).getD j 0 := rfl
    rw [e]
    exact hpos _ (getD_mem (by rw [List.length_map]; omega))
  refine ⟨hlen, List.nodup_cons.mpr ⟨fun h => by have := hpos 0 h; omega, List.Pairwise.map (fun k : Int => k + 1) (fun a b h e => h (by omega)) nd⟩, fun i hi => ?_, fun i h1 h2 => (at1 i h1 h2).1, fun x h0 h1 => ?_⟩
  · by_cases e : i = 0
    · subst e; exact ⟨Int.le_refl _, by show (0 : Int) ≤ n; omega⟩
    · have := at1 i (by omega) hi; omega
  · by_cases e : x = 0
    · exact ⟨0, by omega, by rw [e]; rfl⟩
    · have hm : (x - 1) ∈ ks := pk.mem_iff.mpr (mem_irange.mpr (by omega))
      have hx : x ∈ ordK ks := List.mem_cons_of_mem _ (List.mem_map.mpr ⟨x - 1, hm, by omega⟩)
      obtain ⟨i, hi, ei⟩ := List.getElem_of_mem hx
      exact ⟨i, by omega, by rw [List.getD_eq_getElem?_getD, List.getElem?_eq_getElem hi, ei]; rfl⟩
end WM

set_option maxHeartbeats 4000000
namespace Moor
open PySem L2 WM
def top (i : Nat) : Stmt := PySem.Challenge.pw_wishmoor_k22_read.main.body.getD i (.Pass ⟨0, 0, 0, 0⟩)
structure Blt (mg : Str → Option Value) : Prop where
  none_ : True
  ValueError : mg "ValueError" = none
  all : mg "all" = none
  c_FIGURES : ∃ u, mg "FIGURES" = some u ∧ RelV (.str "0123456789") u
  c_LONGEST_QUAY : ∃ u, mg "LONGEST_QUAY" = some u ∧ RelV (.int 40) u
  c_MOST_FIGURES : ∃ u, mg "MOST_FIGURES" = some u ∧ RelV (.int 2) u
  int : mg "int" = none
  isinstance : mg "isinstance" = none
  len : mg "len" = none
  map : mg "map" = none
  range : mg "range" = none
  str : mg "str" = none
section
variable {P : Program} {w : World} {K : PySem.W.Frag} {mg : Str → Option Value} {base : Heap} {f : Addr} {fd : FuncData} {M C0 C1 C2 C3 C4 C5 : Addr}
abbrev s_check_wishes : Stmt := top 10
theorem sc_check_wishes : FnScope ["wishes", "places", "wish"] ["wishes", "places"] (defScope s_check_wishes) := ⟨rfl, rfl, rfl, by decide +kernel, rfl, by decide +kernel, by decide +kernel⟩
def spCheckWishes (K : PySem.W.Frag) : Sp := fun vs H Q _ => ∃ (a : Addr) (ws : List Int) (p : Int), vs = [.ref a, .int p] ∧ SqL K H a (ws.map V.int) ∧ (∀ w ∈ ws, 0 ≤ w ∧ w < p) ∧ Q .non H
theorem ok_check_wishes (h : Src K mg "check_wishes" s_check_wishes ["wishes", "places"]) : Def P w K mg base 1 "check_wishes" ["wishes", "places"] (spCheckWishes K) := by
  refine def_of h sc_check_wishes (fun vs H Q E h => ?_) (fun f cdv A outer s H vs Q E hr h => ?_)
  · obtain ⟨a, ws, p, rfl, _⟩ := h; rfl
  obtain ⟨a, ws, p, rfl, hS, hb, q⟩ := h
  refine ⟨_, (pss_one (ps_for PassesOwn.never rfl (pi_list (pv 0)) (pg_name (i := 2) sc_check_wishes.nd rfl (Or.inl rfl)) (pss_one (ps_if ((pw_or (pt_cmpR op_lt (pv 2) pe_int (nomark _)) (pw_or1 (pt_cmpR op_ge (pv 2) (pv 1) (nomark _))))).pt (pss_one ps_never) pss_nil)))), ?_⟩
  refine ⟨_, rfl, a, rfl, ⟨_, hS⟩, for_list (K := K) (a := a) (xs := ws.map V.int) (fun i σ H2 => H2 = H ∧ ∃ v, σ = [some (.ref a), some (.int p), v]) ⟨rfl, none, rfl⟩ (fun i σ H2 _ ⟨e, _⟩ => e ▸ hS) ?_ ?_⟩
  · rintro i y σ H2 hi ⟨rfl, v, rfl⟩
    obtain ⟨z, rfl, hz⟩ := int_of hi
    have hz := hb z (List.mem_of_getElem? hz)
    refine ⟨_, rfl, _, _, rfl, rfl, _, rfl, ?_⟩
    refine ifN (by omega) ?_
    refine ⟨_, rfl, _, rfl, _, _, rfl, rfl, _, rfl, ?_⟩
    refine ifN (by omega) ?_
    exact ⟨rfl, _, rfl⟩
  · rintro σ H2 ⟨rfl, _⟩
    exact q

def spCheckWishesX (K : PySem.W.Frag) (C : Addr) : Sp := fun vs H _ E => ∃ (a : Addr) (ws : List Int) (p : Int), vs = [.ref a, .int p] ∧ SqL K H a (ws.map V.int) ∧ (∃ w ∈ ws, w < 0 ∨ p ≤ w) ∧ E (.ref C) none H
theorem ok_check_wishesX (h : Src K mg "check_wishes" s_check_wishes ["wishes", "places"]) (R : Errs K mg M C0 C1 C2 C3 C4 C5) : DefX P w K mg base 1 "check_wishes" ["wishes", "places"] (spCheckWishesX K C1) := by
  refine def_ofX h sc_check_wishes (fun vs H Q E h => ?_) (fun f cdv A outer s H vs Q E hr h => ?_)
  · obtain ⟨a, ws, p, rfl, _⟩ := h; rfl
  obtain ⟨a, ws, p, rfl, hS, hb, q⟩ := h
  refine ⟨_, (pss_one (ps_for PassesOwn.leaving rfl (pi_list (pv 0)) (pg_name (i := 2) sc_check_wishes.nd rfl (Or.inl rfl)) (pss_one (ps_if ((pw_or (pt_cmpR op_lt (pv 2) pe_int (nomark _)) (pw_or1 (pt_cmpR op_ge (pv 2) (pv 1) (nomark _))))).pt
    (pss_one (ps_raise born rfl (by rfl) R.g1 (R.e 1 (by decide)) (pa_cons pe_str pa_nil))) pss_nil)))), ?_⟩
  refine ⟨_, rfl, a, rfl, ⟨_, hS⟩, for_list (K := K) (a := a) (xs := ws.map V.int) (fun i σ H2 => H2 = H ∧ (∀ (j : Nat) (z : Int), j < i → ws[j]? = some z → 0 ≤ z ∧ z < p) ∧ ∃ v, σ = [some (.ref a), some (.int p), v]) ⟨rfl, fun j z hj => by omega, none, rfl⟩ (fun i σ H2 _ ⟨e, _⟩ => e ▸ hS) ?_ ?_⟩
  · rintro i y σ H2 hi ⟨rfl, hg, v, rfl⟩
    obtain ⟨z, rfl, hz⟩ := int_of hi
    refine ⟨_, rfl, _, _, rfl, rfl, _, rfl, ?_⟩
    refine ifD (fun c => ⟨by decide, q⟩) (fun c => ?_)
    refine ⟨_, rfl, _, rfl, _, _, rfl, rfl, _, rfl, ?_⟩
    refine ifD (fun c => ⟨by decide, q⟩) (fun c => ?_)
    refine ⟨rfl, fun j u hj hu => ?_, _, rfl⟩
    by_cases e : j = i
    · subst e; rw [hz] at hu; cases hu; omega
    · exact hg j u (by omega) hu
  · rintro σ H2 ⟨rfl, hg, _⟩
    obtain ⟨w, hw, hb⟩ := hb
    obtain ⟨j, hj, e⟩ := List.getElem_of_mem hw
    have := hg j w (by rw [List.length_map]; exact hj) (by rw [List.getElem?_eq_getElem hj, e])
    omega

abbrev s_check_row : Stmt := top 11
theorem sc_check_row : FnScope ["long", "wishes"] ["long", "wishes"] (defScope s_check_row) := ⟨rfl, rfl, rfl, by decide +kernel, rfl, by decide +kernel, by decide +kernel⟩
def spCheckRow (K : PySem.W.Frag) : Sp := fun vs H Q _ => ∃ (L : Int) (a : Addr) (ws : List Int), vs = [.int L, .ref a] ∧ SqL K H a (ws.map V.int) ∧ 1 ≤ L ∧ L ≤ 40 ∧ (ws.length : Int) ≤ L ∧ (∀ w ∈ ws, 0 ≤ w ∧ w < L) ∧ Q .non H
theorem ok_check_row (h : Src K mg "check_row" s_check_row ["long", "wishes"]) (B : Blt mg) (D_check_wishes : Def P w K mg base 1 "check_wishes" ["wishes", "places"] (spCheckWishes K)) :
    Def P w K mg base 2 "check_row" ["long", "wishes"] (spCheckRow K) := by
  refine def_of h sc_check_row (fun vs H Q E h => ?_) (fun f cdv A outer s H vs Q E hr h => ?_)
  · obtain ⟨L, a, ws, rfl, _⟩ := h; rfl
  obtain ⟨L, a, ws, rfl, hS, h1, h2, h3, hb, q⟩ := h
  refine ⟨_, (pss_cons (ps_if ((pw_or (pt_cmpR op_lt (pv 0) pe_int (nomark _)) (pw_or1 (pt_cmpR op_gt (pv 0) (pe_globI (by rfl) B.c_LONGEST_QUAY) (nomark _))))).pt (pss_one ps_never) pss_nil)
      (pss_cons (ps_if (pt_cmpR op_gt (pe_callB call_len_seq (by rfl) B.len PySem.boot_len (pa_cons (pv 1) pa_nil)) (pv 0) (nomark _)) (pss_one ps_never) pss_nil)
      (pss_one (ps_expr (pe_def D_check_wishes (hr.mono (by decide)) (by rfl) (pa_cons (pv 1) (pa_cons (pv 0) pa_nil))))))), ?_⟩
  refine ⟨_, rfl, _, _, rfl, rfl, _, rfl, ?_⟩
  refine ifN (by omega) ?_
  refine ⟨_, rfl, _, _, rfl, rfl, _, rfl, ?_⟩
  refine ifN (by omega) ?_
  refine ⟨_, rfl, a, _, rfl, .inl hS, _, rfl, _, _, rfl, rfl, _, rfl, ?_⟩
  refine ifN (by rw [List.length_map]; omega) ?_
  exact ⟨_, rfl, _, rfl, a, ws, L, rfl, hS, hb, q⟩

def spRowX (K : PySem.W.Frag) (C0 C1 : Addr) : Sp := fun vs H _ E => ∃ (L : Int) (a : Addr) (ws : List Int), vs = [.int L, .ref a] ∧ SqL K H a (ws.map V.int) ∧
  (((L < 1 ∨ 40 < L) ∧ E (.ref C0) none H) ∨ (1 ≤ L ∧ L ≤ 40 ∧ (L < (ws.length : Int) ∨ ∃ w ∈ ws, w < 0 ∨ L ≤ w) ∧ E (.ref C1) none H))
theorem ok_check_rowX (h : Src K mg "check_row" s_check_row ["long", "wishes"]) (B : Blt mg) (R : Errs K mg M C0 C1 C2 C3 C4 C5) (D_check_wishesX : DefX P w K mg base 1 "check_wishes" ["wishes", "places"] (spCheckWishesX K C1)) :
    DefX P w K mg base 2 "check_row" ["long", "wishes"] (spRowX K C0 C1) := by
  refine def_ofX h sc_check_row (fun vs H Q E h => ?_) (fun f cdv A outer s H vs Q E hr h => ?_)
  · obtain ⟨L, a, ws, rfl, _⟩ := h; rfl
  obtain ⟨L, a, ws, rfl, hS, hb⟩ := h
  refine ⟨_, (pss_cons (ps_if ((pw_or (pt_cmpR op_lt (pv 0) pe_int (nomark _)) (pw_or1 (pt_cmpR op_gt (pv 0) (pe_globI (by rfl) B.c_LONGEST_QUAY) (nomark _))))).pt (pss_one (ps_raise born rfl (by rfl) R.g0 (R.e 0 (by decide)) (pa_cons pe_str pa_nil))) pss_nil)
      (pss_cons (ps_if (pt_cmpR op_gt (pe_callB call_len_seq (by rfl) B.len PySem.boot_len (pa_cons (pv 1) pa_nil)) (pv 0) (nomark _)) (pss_one (ps_raise born rfl (by rfl) R.g1 (R.e 1 (by decide)) (pa_cons pe_str pa_nil))) pss_nil)
      (pss_one (ps_expr (pe_defX D_check_wishesX (hr.mono (by decide)) passE (by rfl) (pa_cons (pv 1) (pa_cons (pv 0) pa_nil))))))), ?_⟩
  have hl : ((ws.map V.int).length : Int) = ws.length := by rw [List.length_map]
  rcases hb with ⟨hL, q⟩ | ⟨h1, h2, hb, q⟩
  · refine ⟨_, rfl, _, _, rfl, rfl, _, rfl, ifD (fun c => ⟨by decide, q⟩) (fun c1 => ?_)⟩
    exact ⟨_, rfl, _, _, rfl, rfl, _, rfl, ifP (by omega) ⟨by decide, q⟩⟩
  · refine ⟨_, rfl, _, _, rfl, rfl, _, rfl, ifN (by omega) ?_⟩
    refine ⟨_, rfl, _, _, rfl, rfl, _, rfl, ifN (by omega) ?_⟩
    refine ⟨_, rfl, a, _, rfl, .inl hS, _, rfl, _, _, rfl, rfl, _, rfl, ifD (fun c => ⟨by decide, q⟩) (fun c3 => ?_)⟩
    refine ⟨_, rfl, _, rfl, a, ws, L, rfl, hS, ?_, q⟩
    rcases hb with hb | hb
    · omega
    · exact hb

abbrev s_number_of : Stmt := top 15
theorem sc_number_of : FnScope ["word"] ["word"] (defScope s_number_of) := ⟨rfl, rfl, rfl, by decide +kernel, rfl, by decide +kernel, by decide +kernel⟩
theorem sc_number_of.c0 : CompSc ["word"] (defScope s_number_of) ["sign"] 1 [] { kind := .function, names := [(PySem.Str.ofString ".0", PySem.NameKind.local), (PySem.Str.ofString "sign", PySem.NameKind.local), (PySem.Str.ofString "FIGURES", PySem.NameKind.globalImplicit)], isGenerator := false, isCoroutine := false, more := [] } := ⟨rfl, by decide +kernel, by decide +kernel, by decide +kernel, by decide, rfl, by decide +kernel⟩
theorem sc_number_of.nd0 : (["sign"] : List Str).Nodup := by decide +kernel
def spNum (K : PySem.W.Frag) : Sp := fun vs H Q _ => ∃ n : Nat, vs = [.str (numT n)] ∧ n < 100 ∧ ∀ H', Same H H' → Q (.int (n : Int)) H'
theorem ok_number_of (h : Src K mg "number_of" s_number_of ["word"]) (B : Blt mg) : Def P w K mg base 1 "number_of" ["word"] (spNum K) := by
  refine def_of h sc_number_of (fun vs H Q E h => ?_) (fun f cdv A outer s H vs Q E hr h => ?_)
  · obtain ⟨n, rfl, _⟩ := h; rfl
  obtain ⟨n, rfl, hn, q⟩ := h
  have hlen := fg_len n hn
  have hz : (numT n).length ≤ sizeLine := small (by omega)
  refine ⟨_, (pss_cons (ps_if ((pw_or (pt_cmpR op_lt (pe_callB call_len_str (by rfl) B.len PySem.boot_len (pa_cons (pv 0) pa_nil)) pe_int (nomark _)) (pw_or1 (pt_cmpR op_gt (pe_callB call_len_str (by rfl) B.len PySem.boot_len (pa_cons (pv 0) pa_nil)) (pe_globI (by rfl) B.c_MOST_FIGURES) (nomark _))))).pt (pss_one ps_never) pss_nil)
      (pss_cons (ps_if (pt_not (pt_val (pe_callB (call_allB rfl) (by rfl) B.all (by decide +kernel) (pa_cons (pe_comp sc_number_of.c0 rfl (pi_str (pv 0)) (fun _ _ _ _ => (pg_name (i := 0) sc_number_of.nd0 rfl (Or.inl rfl))) (fun _ _ _ _ => pifs_nil) (fun _ _ _ _ => (pe_cmpR op_in_str (pv 0) (pe_globI (by rfl) B.c_FIGURES) rfl))) pa_nil)))) (pss_one ps_never) pss_nil)
      (pss_cons (ps_if ((pw_and (pt_cmpR op_gt (pe_callB call_len_str (by rfl) B.len PySem.boot_len (pa_cons (pv 0) pa_nil)) pe_int (nomark _)) (pw_and1 (pt_cmpR op_eq (pe_ix ix_str (pv 0) pe_int (fun _ _ => rfl)) pe_str (nomark _))))).pt (pss_one ps_never) pss_nil)
      (pss_one (ps_ret (pe_callTy call_int_str (by rfl) B.int (by decide +kernel) (pa_cons (pv 0) pa_nil))))))), ?_⟩
  refine ⟨_, rfl, numT n, rfl, hz, _, _, rfl, rfl, _, rfl, ifN (by omega) ?_⟩
  refine ⟨_, rfl, numT n, rfl, hz, _, _, rfl, rfl, _, rfl, ifN (by omega) ?_⟩
  refine ⟨_, rfl, numT n, rfl, numT_ascii hn, fun p hp => ?_⟩
  refine comp_str (rest := []) (fun c => .bl (decide (48 ≤ c) && decide (c ≤ 57))) (by have := str_len (numT n); have e : (numT n).cps.size = (numT n).length := rfl; omega) ⟨none, rfl⟩ ?_ ?_
  · intro c ys R hc hR
    have := fg_mem n hn c hc
    refine ⟨_, rfl, _, _, rfl, rfl, ?_⟩
    have e := in_fig c (by omega)
    rw [e]; exact hR
  have eb : (numT n).cps.toList.map (fun c => V.bl (decide (48 ≤ c) && decide (c ≤ 57))) = ((fg n).map (fun c => decide (48 ≤ c) && decide (c ≤ 57))).map V.bl := by rw [List.map_map]; rfl
  rw [eb]
  have eall : ((fg n).map (fun c => decide (48 ≤ c) && decide (c ≤ 57))).all id = true := by
    rw [List.all_map, List.all_eq_true]
    intro c hc
    have := fg_mem n hn c hc
    show (decide (48 ≤ c) && decide (c ≤ 57)) = true
    rw [decide_eq_true this.1, decide_eq_true this.2]; rfl
  refine ⟨p, _, rfl, SqL.of upd_same, true, by rw [eall], iteF ?_⟩
  have s1 := same_new hp (.lst (((fg n).map (fun c => decide (48 ≤ c) && decide (c ≤ 57))).map V.bl))
  refine ⟨_, rfl, numT n, rfl, hz, _, _, rfl, rfl, _, rfl, ifD (fun c => ?_) (fun c => ⟨_, rfl, n, rfl, hn, q _ s1⟩)⟩
  · have h2 : (numT n).length = 2 := by omega
    have hd := fg_head n hn h2
    have hl2 : (fg n).length = 2 := by rw [str_len] at h2; exact h2
    obtain ⟨c0, rest, ef⟩ : ∃ c0 rest, fg n = c0 :: rest := by
      cases e : fg n with
      | nil => rw [e] at hl2; cases hl2
      | cons a b => exact ⟨a, b, rfl⟩
    have a0 : atI (numT n).cps.toList 0 = some c0 := by
      show atI (fg n) 0 = some c0
      rw [ef]; exact atI_nat (j := 0) rfl
    have hc0 : c0 ≠ 48 := by rw [ef] at hd; exact hd
    refine ⟨_, rfl, numT n, 0, c0, rfl, rfl, hz, a0, rfl, _, rfl, ifN (fun z => ?_) ⟨_, rfl, n, rfl, hn, q _ s1⟩⟩
    have z : (⟨#[c0]⟩ : Str) = "0" := V.str.inj z
    have := congrArg (fun s : Str => s.cps.toList) z
    have this : [c0] = [48] := this
    exact hc0 (List.cons.inj this).1

theorem ifR {A B : Prop} (h : A) : if (!false) = true then A else B := by rw [if_pos (by decide)]; exact h
def spNumX (K : PySem.W.Frag) (C : Addr) : Sp := fun vs H Q E => ∃ z : Str, vs = [.str z] ∧ z.length ≤ 1000 ∧ (∀ c ∈ z.cps.toList, c < 128) ∧ ((∃ n : Nat, z = numT n ∧ n < 100 ∧ ∀ H', Same H H' → Q (.int (n : Int)) H') ∨ ((∀ n, n < 100 → z ≠ numT n) ∧ ∀ H', Same H H' → E (.ref C) none H'))
theorem ok_number_ofX (h : Src K mg "number_of" s_number_of ["word"]) (B : Blt mg) (R : Errs K mg M C0 C1 C2 C3 C4 C5) : DefX P w K mg base 1 "number_of" ["word"] (spNumX K C5) := by
  refine def_ofX h sc_number_of (fun vs H Q E h => ?_) (fun f cdv A outer s H vs Q E hr h => ?_)
  · obtain ⟨z, rfl, _⟩ := h; rfl
  obtain ⟨z, rfl, hz, hasc, hgb⟩ := h
  rcases hgb with ⟨n, rfl, hn, q⟩ | ⟨hbad, q⟩
  · have hlen := fg_len n hn
    have hz : (numT n).length ≤ sizeLine := small (by omega)
    refine ⟨_, (pss_cons (ps_if ((pw_or (pt_cmpR op_lt (pe_callB call_len_str (by rfl) B.len PySem.boot_len (pa_cons (pv 0) pa_nil)) pe_int (nomark _)) (pw_or1 (pt_cmpR op_gt (pe_callB call_len_str (by rfl) B.len PySem.boot_len (pa_cons (pv 0) pa_nil)) (pe_globI (by rfl) B.c_MOST_FIGURES) (nomark _))))).pt (pss_one ps_never) pss_nil)
      (pss_cons (ps_if (pt_not (pt_val (pe_callB (call_allB rfl) (by rfl) B.all (by decide +kernel) (pa_cons (pe_comp sc_number_of.c0 rfl (pi_str (pv 0)) (fun _ _ _ _ => (pg_name (i := 0) sc_number_of.nd0 rfl (Or.inl rfl))) (fun _ _ _ _ => pifs_nil) (fun _ _ _ _ => (pe_cmpR op_in_str (pv 0) (pe_globI (by rfl) B.c_FIGURES) rfl))) pa_nil)))) (pss_one ps_never) pss_nil)
      (pss_cons (ps_if ((pw_and (pt_cmpR op_gt (pe_callB call_len_str (by rfl) B.len PySem.boot_len (pa_cons (pv 0) pa_nil)) pe_int (nomark _)) (pw_and1 (pt_cmpR op_eq (pe_ix ix_str (pv 0) pe_int (fun _ _ => rfl)) pe_str (nomark _))))).pt (pss_one ps_never) pss_nil)
      (pss_one (ps_ret (pe_callTy call_int_str (by rfl) B.int (by decide +kernel) (pa_cons (pv 0) pa_nil))))))), ?_⟩
    refine ⟨_, rfl, numT n, rfl, hz, _, _, rfl, rfl, _, rfl, ifN (by omega) ?_⟩
    refine ⟨_, rfl, numT n, rfl, hz, _, _, rfl, rfl, _, rfl, ifN (by omega) ?_⟩
    refine ⟨_, rfl, numT n, rfl, numT_ascii hn, fun p hp => ?_⟩
    refine comp_str (rest := []) (fun c => .bl (decide (48 ≤ c) && decide (c ≤ 57))) (by have := str_len (numT n); have e : (numT n).cps.size = (numT n).length := rfl; omega) ⟨none, rfl⟩ ?_ ?_
    · intro c ys R hc hR
      have := fg_mem n hn c hc
      refine ⟨_, rfl, _, _, rfl, rfl, ?_⟩
      have e := in_fig c (by omega)
      rw [e]; exact hR
    have eb : (numT n).cps.toList.map (fun c => V.bl (decide (48 ≤ c) && decide (c ≤ 57))) = ((fg n).map (fun c => decide (48 ≤ c) && decide (c ≤ 57))).map V.bl := by rw [List.map_map]; rfl
    rw [eb]
    have eall : ((fg n).map (fun c => decide (48 ≤ c) && decide (c ≤ 57))).all id = true := by
      rw [List.all_map, List.all_eq_true]
      intro c hc
      have := fg_mem n hn c hc
      show (decide (48 ≤ c) && decide (c ≤ 57)) = true
      rw [decide_eq_true this.1, decide_eq_true this.2]; rfl
    refine ⟨p, _, rfl, SqL.of upd_same, true, by rw [eall], iteF ?_⟩
    have s1 := same_new hp (.lst (((fg n).map (fun c => decide (48 ≤ c) && decide (c ≤ 57))).map V.bl))
    refine ⟨_, rfl, numT n, rfl, hz, _, _, rfl, rfl, _, rfl, ifD (fun c => ?_) (fun c => ⟨_, rfl, n, rfl, hn, q _ s1⟩)⟩
    · have h2 : (numT n).length = 2 := by omega
      have hd := fg_head n hn h2
      have hl2 : (fg n).length = 2 := by rw [str_len] at h2; exact h2
      obtain ⟨c0, rest, ef⟩ : ∃ c0 rest, fg n = c0 :: rest := by
        cases e : fg n with
        | nil => rw [e] at hl2; cases hl2
        | cons a b => exact ⟨a, b, rfl⟩
      have a0 : atI (numT n).cps.toList 0 = some c0 := by
        show atI (fg n) 0 = some c0
        rw [ef]; exact atI_nat (j := 0) rfl
      have hc0 : c0 ≠ 48 := by rw [ef] at hd; exact hd
      refine ⟨_, rfl, numT n, 0, c0, rfl, rfl, hz, a0, rfl, _, rfl, ifN (fun z => ?_) ⟨_, rfl, n, rfl, hn, q _ s1⟩⟩
      have z : (⟨#[c0]⟩ : Str) = "0" := V.str.inj z
      have := congrArg (fun s : Str => s.cps.toList) z
      have this : [c0] = [48] := this
      exact hc0 (List.cons.inj this).1
  · have hsz : z.length ≤ sizeLine := small hz
    refine ⟨_, (pss_cons (ps_if ((pw_or (pt_cmpR op_lt (pe_callB call_len_str (by rfl) B.len PySem.boot_len (pa_cons (pv 0) pa_nil)) pe_int (nomark _)) (pw_or1 (pt_cmpR op_gt (pe_callB call_len_str (by rfl) B.len PySem.boot_len (pa_cons (pv 0) pa_nil)) (pe_globI (by rfl) B.c_MOST_FIGURES) (nomark _))))).pt (pss_one (ps_raise born rfl (by rfl) R.g5 (R.e 5 (by decide)) (pa_cons pe_str pa_nil))) pss_nil)
        (pss_cons (ps_if (pt_not (pt_val (pe_callB (call_allB rfl) (by rfl) B.all (by decide +kernel) (pa_cons (pe_comp sc_number_of.c0 rfl (pi_str (pv 0)) (fun _ _ _ _ => (pg_name (i := 0) sc_number_of.nd0 rfl (Or.inl rfl))) (fun _ _ _ _ => pifs_nil) (fun _ _ _ _ => (pe_cmpR op_in_str (pv 0) (pe_globI (by rfl) B.c_FIGURES) rfl))) pa_nil)))) (pss_one (ps_raise born rfl (by rfl) R.g5 (R.e 5 (by decide)) (pa_cons pe_str pa_nil))) pss_nil)
        (pss_cons (ps_if ((pw_and (pt_cmpR op_gt (pe_callB call_len_str (by rfl) B.len PySem.boot_len (pa_cons (pv 0) pa_nil)) pe_int (nomark _)) (pw_and1 (pt_cmpR op_eq (pe_ix ix_str (pv 0) pe_int (fun _ _ => rfl)) pe_str (nomark _))))).pt (pss_one (ps_raise born rfl (by rfl) R.g5 (R.e 5 (by decide)) (pa_cons pe_str pa_nil))) pss_nil) pss_never))), ?_⟩
    refine ⟨_, rfl, z, rfl, hsz, _, _, rfl, rfl, _, rfl, ifD (fun c => ⟨by decide, q _ (Same.refl _)⟩) (fun c1 => ?_)⟩
    refine ⟨_, rfl, z, rfl, hsz, _, _, rfl, rfl, _, rfl, ifD (fun c => ⟨by decide, q _ (Same.refl _)⟩) (fun c2 => ?_)⟩
    have hall : z.cps.all (· < 128) = true := by
      rw [Array.all_eq_true']
      intro c hc
      exact decide_eq_true (hasc c (Array.mem_toList_iff.mpr hc))
    refine ⟨_, rfl, z, rfl, hall, fun p hp => ?_⟩
    have hzs : z.cps.size = z.length := rfl
    refine comp_str (rest := []) (fun c => .bl (decide (48 ≤ c) && decide (c ≤ 57))) (by omega) ⟨none, rfl⟩ ?_ ?_
    · intro c ys R' hc hR
      refine ⟨_, rfl, _, _, rfl, rfl, ?_⟩
      have e := in_fig c (hasc c hc)
      rw [e]; exact hR
    have eb : z.cps.toList.map (fun c => V.bl (decide (48 ≤ c) && decide (c ≤ 57))) = (z.cps.toList.map (fun c => decide (48 ≤ c) && decide (c ≤ 57))).map V.bl := by rw [List.map_map]; rfl
    rw [eb]
    have s1 := same_new hp (.lst ((z.cps.toList.map (fun c => decide (48 ≤ c) && decide (c ≤ 57))).map V.bl))
    refine ⟨p, _, rfl, SqL.of upd_same, ?_⟩
    cases ea : (z.cps.toList.map (fun c => decide (48 ≤ c) && decide (c ≤ 57))).all id with
    | false => exact ⟨false, rfl, iteT ⟨by decide, q _ s1⟩⟩
    | true =>
      refine ⟨true, rfl, iteF ?_⟩
      have hdig : ∀ c ∈ z.cps.toList, 48 ≤ c ∧ c ≤ 57 := fun c hc => by
        rw [List.all_map, List.all_eq_true] at ea
        have := ea c hc
        have this : (decide (48 ≤ c) && decide (c ≤ 57)) = true := this
        rw [Bool.and_eq_true, decide_eq_true_iff, decide_eq_true_iff] at this
        exact this
      have hl := str_len z
      -- one figure or two
      have two : z.length = 1 ∨ z.length = 2 := by omega
      rcases two with h1 | h2
      · exfalso
        obtain ⟨c0, e0⟩ : ∃ c0, z.cps.toList = [c0] := by
          match e : z.cps.toList with
          | [] => rw [e] at hl; simp at hl; omega
          | [a] => exact ⟨a, rfl⟩
          | a :: b :: r => rw [e] at hl; simp at hl; omega
        have hc := hdig c0 (by rw [e0]; exact List.mem_cons_self)
        obtain ⟨f1, f2⟩ := fg_one c0 (by omega) hc.1 hc.2
        refine hbad _ f2 ?_
        rw [f1]
        exact str_toList (by rw [e0])
      · obtain ⟨c0, d0, e0⟩ : ∃ c0 d0, z.cps.toList = [c0, d0] := by
          match e : z.cps.toList with
          | [] => rw [e] at hl; simp at hl; omega
          | [a] => rw [e] at hl; simp at hl; omega
          | [a, b] => exact ⟨a, b, rfl⟩
          | a :: b :: c :: r => rw [e] at hl; simp at hl; omega
        have hc := hdig c0 (by rw [e0]; simp)
        have hd := hdig d0 (by rw [e0]; simp)
        have a0 : atI z.cps.toList 0 = some c0 := by rw [e0]; rfl
        refine ⟨_, rfl, z, rfl, hsz, _, _, rfl, rfl, _, rfl, ifP (by omega) ?_⟩
        refine ⟨_, rfl, z, 0, c0, rfl, rfl, hsz, a0, rfl, _, rfl, ifP ?_ ⟨by decide, q _ s1⟩⟩
        by_cases e48 : c0 = 48
        · subst e48; rfl
        · exfalso
          obtain ⟨f1, f2⟩ := fg_two c0 (by omega) d0 (by omega) (by omega) hd.1
          refine hbad _ f2 ?_
          rw [f1]
          exact str_toList (by rw [e0])

abbrev s_read : Stmt := top 16
theorem sc_read : FnScope ["text", "parts", "words", "long", "wishes"] ["text"] (defScope s_read) := ⟨rfl, rfl, rfl, by decide +kernel, rfl, by decide +kernel, by decide +kernel⟩
theorem sc_read.c0 : CompSc ["text", "parts", "words", "long", "wishes"] (defScope s_read) ["word"] 1 [] { kind := .function, names := [(PySem.Str.ofString ".0", PySem.NameKind.local), (PySem.Str.ofString "word", PySem.NameKind.local), (PySem.Str.ofString "number_of", PySem.NameKind.globalImplicit)], isGenerator := false, isCoroutine := false, more := [] } := ⟨rfl, by decide +kernel, by decide +kernel, by decide +kernel, by decide, rfl, by decide +kernel⟩
theorem sc_read.nd0 : (["word"] : List Str).Nodup := by decide +kernel
theorem cut1 (x : V) (xs : List V) : cutV (x :: xs) (some 1) none = xs := by
  have e : (some (1 : Int)) = some ((1 : Nat) : Int) := rfl
  unfold cutV
  rw [e, HT.sIx_nat, HT.sIx_none, List.length_cons, Nat.min_eq_left (by omega), List.drop_succ_cons, List.drop_zero, List.take_of_length_le (by omega)]
def intL (ms : List Nat) : List Int := ms.map (fun m : Nat => (m : Int))
theorem intL_len (ms : List Nat) : (intL ms).length = ms.length := by unfold intL; rw [List.length_map]
theorem words_len (ms : List Nat) (hm : ∀ m ∈ ms, m < 100) : (Str.join (sg 32) (Str.empty :: ms.map numT)).length ≤ 3 * ms.length := by
  rw [str_len, join_toList, List.flatMap_map]
  show (([] : List Nat) ++ ms.flatMap (fun m => 32 :: fg m)).length ≤ _
  rw [List.nil_append]
  induction ms with
  | nil => simp
  | cons m l ih =>
    have a := ih fun x hx => hm x (List.mem_cons_of_mem _ hx)
    have b := fg_short (hm m List.mem_cons_self)
    rw [List.flatMap_cons, List.length_append, List.length_cons, List.length_cons]; omega
def spRead (K : PySem.W.Frag) : Sp := fun vs H Q _ => ∃ (n : Nat) (ms : List Nat), vs = [.str (TX n ms)] ∧ 1 ≤ n ∧ n ≤ 40 ∧ ms.length ≤ n ∧ (∀ m ∈ ms, m < n) ∧
  ∀ (t l : Addr) (H' : Hp), Same H H' → H l = none → t ≠ l → H' t = some (.tup [.int (n : Int), .ref l]) → H' l = some (.lst ((intL ms).map V.int)) → Q (.ref t) H'
theorem ok_read (h : Src K mg "read" s_read ["text"]) (B : Blt mg) (D_number_of : Def P w K mg base 1 "number_of" ["word"] (spNum K)) (D_check_row : Def P w K mg base 2 "check_row" ["long", "wishes"] (spCheckRow K)) : Def P w K mg base 3 "read" ["text"] (spRead K) := by
  refine def_of h sc_read (fun vs H Q E h => ?_) (fun f cdv A outer s H vs Q E hr h => ?_)
  · obtain ⟨n, ms, rfl, _⟩ := h; rfl
  obtain ⟨n, ms, rfl, h1, h2, h3, hm, q⟩ := h
  have hm' : ∀ m ∈ ms, m < 100 := fun m hx => by have := hm m hx; omega
  have hn' : n < 100 := by omega
  have htl := TX_len hn' hm'
  have hwl := words_len ms hm'
  refine ⟨_, (pss_cons (ps_set (i := 1) sc_read.nd rfl (Or.inl rfl) (pe_bm PySem.F.plainAttrs_str PySem.F.slot_str_split PySem.F.type_str_split mt_split (pv 0) (pa_cons pe_str pa_nil)))
      (pss_cons (ps_if (pt_cmpR op_ne (pe_callB call_len_seq (by rfl) B.len PySem.boot_len (pa_cons (pv 1) pa_nil)) pe_int (nomark _)) (pss_one ps_never) pss_nil)
      (pss_cons (ps_set (i := 2) sc_read.nd rfl (Or.inl rfl) (pe_bm PySem.F.plainAttrs_str PySem.F.slot_str_split PySem.F.type_str_split mt_split (pe_ix ix_list (pv 1) pe_int (fun _ _ => rfl)) (pa_cons pe_str pa_nil)))
      (pss_cons (ps_if (pt_cmpR op_ne (pe_ix ix_list (pv 2) pe_int (fun _ _ => rfl)) pe_str (nomark _)) (pss_one ps_never) pss_nil)
      (pss_cons (ps_set (i := 3) sc_read.nd rfl (Or.inl rfl) (pe_def D_number_of (hr.mono (by decide)) (by rfl) (pa_cons (pe_ix ix_list (pv 1) pe_int (fun _ _ => rfl)) pa_nil)))
      (pss_cons (ps_setC (i := 4) sc_read.nd rfl rfl sc_read.c0 rfl (pi_list (pe_slice sl_list (pv 2) (po_some pe_int) po_none)) (fun _ _ _ _ => (pg_name (i := 0) sc_read.nd0 rfl (Or.inl rfl))) (fun _ _ _ _ => pifs_nil) (fun _ _ _ _ => (pe_def D_number_of (hr.mono (by decide)) (by rfl) (pa_cons (pv 0) pa_nil))))
      (pss_cons (ps_expr (pe_def D_check_row (hr.mono (by decide)) (by rfl) (pa_cons (pv 3) (pa_cons (pv 4) pa_nil))))
      (pss_one (ps_ret (pe_tup (pa_cons (pv 3) (pa_cons (pv 4) pa_nil)))))))))))), ?_⟩
  refine ⟨_, rfl, rfl, TX n ms, 58, rfl, rfl, by omega, by rw [TX_parts hn' hm']; show 2 ≤ 1000; decide, fun l1 hl1 => ?_⟩
  rw [TX_parts hn' hm']
  have s1 := same_new hl1 (.lst ([numT n, Str.join (sg 32) (Str.empty :: ms.map numT)].map V.str))
  refine ⟨_, rfl, l1, _, rfl, .inl (SqL.of upd_same), rfl, _, rfl, ifNN rfl ?_⟩
  refine ⟨_, rfl, l1, _, _, _, rfl, rfl, SqL.of upd_same, atI_nat (j := 1) rfl, rfl, Str.join (sg 32) (Str.empty :: ms.map numT), 32, rfl, rfl, by omega, by rw [TX_words hm', List.length_cons, List.length_map]; omega, fun l2 hl2 => ?_⟩
  rw [TX_words hm']
  have s2 := same_new hl2 (.lst ((Str.empty :: ms.map numT).map V.str))
  have e1 := s2 _ _ (show upd H l1 _ l1 = _ from upd_same)
  refine ⟨_, rfl, l2, _, _, _, rfl, rfl, SqL.of upd_same, atI_nat (j := 0) rfl, rfl, _, rfl, ifNN rfl ?_⟩
  refine ⟨_, rfl, l1, _, _, _, rfl, rfl, SqL.of e1, atI_nat (j := 0) rfl, n, rfl, hn', fun H3 s3 => ?_⟩
  have e2 := s3 _ _ (show upd _ l2 (HO.lst ((Str.empty :: ms.map numT).map V.str)) l2 = _ from upd_same)
  refine ⟨_, rfl, _, rfl, l2, _, rfl, SqL.of e2, fun p hp => ?_⟩
  have ecut : cutV ((Str.empty :: ms.map numT).map V.str) (some 1) none = (ms.map numT).map V.str := cut1 _ _
  rw [ecut]
  have s4 := same_new hp (.lst ((ms.map numT).map V.str))
  refine ⟨p, rfl, ⟨_, SqL.of upd_same⟩, fun pc hpc => ?_⟩
  have s04 : Same H (upd H3 p (.lst ((ms.map numT).map V.str))) := s1.trans (s2.trans (s3.trans s4))
  refine comp_listS (K := K) (xs := (ms.map numT).map V.str) (rest := []) (fun _ => true) (fun v => match v with | .str z => .int (((ms.find? fun m => decide (numT m = z)).getD 0 : Nat) : Int) | v => v) (by rw [List.length_map, List.length_map]; omega) (SqL.of upd_same) hpc ⟨none, rfl⟩ ?_ ?_ ?_
  · intro x H' R hx s' hR; exact hR _ (Same.refl _)
  · intro x H' R hx s' _ hR
    obtain ⟨z, hz, rfl⟩ := List.mem_map.mp hx
    obtain ⟨m, hmm, rfl⟩ := List.mem_map.mp hz
    have efind : (ms.find? fun m' => decide (numT m' = numT m)).getD 0 = m := by
      cases e : ms.find? fun m' => decide (numT m' = numT m) with
      | none =>
        have := List.find?_eq_none.mp e m hmm
        simp at this
      | some m' =>
        have h5 := List.find?_some e
        have h6 := List.mem_of_find?_eq_some e
        exact numT_inj m' (hm' m' h6) m (hm' m hmm) (of_decide_eq_true h5)
    refine ⟨_, rfl, m, rfl, hm' m hmm, fun H2 s2' => ?_⟩
    have := hR H2 s2'
    dsimp only at this
    rw [efind] at this
    exact this
  · intro H' s' ep
    have ew : (((ms.map numT).map V.str).filter (fun _ => true)).map (fun v => match v with | .str z => V.int (((ms.find? fun m => decide (numT m = z)).getD 0 : Nat) : Int) | v => v) = (intL ms).map V.int := by
      rw [List.filter_eq_self.mpr (fun _ _ => rfl), List.map_map, List.map_map]
      unfold intL
      rw [List.map_map]
      apply List.map_congr_left
      intro m hmm
      show V.int (((ms.find? fun m' => decide (numT m' = numT m)).getD 0 : Nat) : Int) = V.int (m : Int)
      congr 2
      cases e : ms.find? fun m' => decide (numT m' = numT m) with
      | none =>
        have := List.find?_eq_none.mp e m hmm
        simp at this
      | some m' =>
        have h5 := List.find?_some e
        have h6 := List.mem_of_find?_eq_some e
        exact numT_inj m' (hm' m' h6) m (hm' m hmm) (of_decide_eq_true h5)
    rw [ew] at ep
    have s05 := s04.trans s'
    refine ⟨_, rfl, _, rfl, (n : Int), pc, intL ms, rfl, SqL.of ep, by omega, by omega, by rw [intL_len]; omega, fun w hw => ?_, ?_⟩
    · obtain ⟨m, hmm, rfl⟩ := List.mem_map.mp hw
      have := hm m hmm
      omega
    refine ⟨_, rfl, _, rfl, by show 2 ≤ sizeLine; decide, fun t ht => ?_⟩
    have hpt : pc ≠ t := ne_of_none ep ht
    exact q t pc _ (s05.trans (same_new ht _)) (s04.free hpc) (Ne.symm hpt) upd_same (by rw [upd_ne hpt]; exact ep)

def valN (z : Str) : Nat := ((List.range 100).find? fun m => decide (numT m = z)).getD 0
theorem valN_numT : ∀ m : Nat, m < 100 → valN (numT m) = m := by decide +kernel
def valV : V → V
  | .str z => .int ((valN z : Nat) : Int)
  | v => v
theorem TX_ge (n : Nat) (ms : List Nat) : ms.length ≤ (TX n ms).length := by
  rw [str_len, TX_toList, List.length_append, List.length_cons]
  have := flat_len 32 (ms.map numT)
  rw [List.length_map, List.flatMap_map] at this
  have this : ms.length ≤ (ms.flatMap (fun m => 32 :: fg m)).length := this
  omega
theorem num_asc {n : Nat} (h : n < 100) : ∀ c ∈ (numT n).cps.toList, c < 128 := fun c hc => by have := fg_mem n h c hc; omega
theorem num_sh {n : Nat} (h : n < 100) : (numT n).length ≤ 1000 := by have := fg_len n h; omega
def spReadX (K : PySem.W.Frag) (C0 C1 C5 : Addr) : Sp := fun vs H _ E => ∃ z : Str, vs = [.str z] ∧ z.length ≤ 900 ∧ Asc z ∧ ((BadN z ∧ ∀ H', Same H H' → E (.ref C5) none H') ∨
  ∃ (n : Nat) (ms : List Nat), z = TX n ms ∧ n < 100 ∧ (∀ m ∈ ms, m < 100) ∧ (((n < 1 ∨ 40 < n) ∧ ∀ H', Same H H' → E (.ref C0) none H') ∨ (1 ≤ n ∧ n ≤ 40 ∧ (n < ms.length ∨ ∃ m ∈ ms, n ≤ m) ∧ ∀ H', Same H H' → E (.ref C1) none H')))
theorem ok_readX (h : Src K mg "read" s_read ["text"]) (B : Blt mg) (R : Errs K mg M C0 C1 C2 C3 C4 C5) (D_number_ofX : DefX P w K mg base 1 "number_of" ["word"] (spNumX K C5)) (D_check_rowX : DefX P w K mg base 2 "check_row" ["long", "wishes"] (spRowX K C0 C1)) : DefX P w K mg base 3 "read" ["text"] (spReadX K C0 C1 C5) := by
  refine def_ofX h sc_read (fun vs H Q E h => ?_) (fun f cdv A outer s H vs Q E hr h => ?_)
  · obtain ⟨z, rfl, _⟩ := h; rfl
  obtain ⟨z, rfl, hz, hasc, h⟩ := h
  refine ⟨_, (pss_cons (ps_set (i := 1) sc_read.nd rfl (Or.inl rfl) (pe_bm PySem.F.plainAttrs_str PySem.F.slot_str_split PySem.F.type_str_split mt_split (pv 0) (pa_cons pe_str pa_nil)))
      (pss_cons (ps_if (pt_cmpR op_ne (pe_callB call_len_seq (by rfl) B.len PySem.boot_len (pa_cons (pv 1) pa_nil)) pe_int (nomark _)) (pss_one (ps_raise born rfl (by rfl) R.g5 (R.e 5 (by decide)) (pa_cons pe_str pa_nil))) pss_nil)
      (pss_cons (ps_set (i := 2) sc_read.nd rfl (Or.inl rfl) (pe_bm PySem.F.plainAttrs_str PySem.F.slot_str_split PySem.F.type_str_split mt_split (pe_ix ix_list (pv 1) pe_int (fun _ _ => rfl)) (pa_cons pe_str pa_nil)))
      (pss_cons (ps_if (pt_cmpR op_ne (pe_ix ix_list (pv 2) pe_int (fun _ _ => rfl)) pe_str (nomark _)) (pss_one (ps_raise born rfl (by rfl) R.g5 (R.e 5 (by decide)) (pa_cons pe_str pa_nil))) pss_nil)
      (pss_cons (ps_set (i := 3) sc_read.nd rfl (Or.inl rfl) (pe_defX D_number_ofX (hr.mono (by decide)) passE (by rfl) (pa_cons (pe_ix ix_list (pv 1) pe_int (fun _ _ => rfl)) pa_nil)))
      (pss_cons (ps_setCX (i := 4) rfl rfl rfl passH sc_read.nd rfl rfl sc_read.c0 rfl (pi_list (pe_slice sl_list (pv 2) (po_some pe_int) po_none)) (fun _ _ _ _ => (pg_name (i := 0) sc_read.nd0 rfl (Or.inl rfl))) (fun _ _ _ _ => pifs_nil) (fun _ _ _ _ _ _ hp => (pe_defX D_number_ofX (hr.mono (by decide)) hp (by rfl) (pa_cons (pv 0) pa_nil))))
      (pss_cons (ps_expr (pe_defX D_check_rowX (hr.mono (by decide)) passE (by rfl) (pa_cons (pv 3) (pa_cons (pv 4) pa_nil)))) pss_never))))))), ?_⟩
  have hc1 := split_cnt z 58
  refine ⟨_, rfl, rfl, z, 58, rfl, rfl, by omega, by omega, fun l1 hl1 => ?_⟩
  rcases h with ⟨hb, q⟩ | ⟨n, ms, rfl, hn, hm, hq⟩
  · by_cases hl2 : (Txt.split z (sg 58)).length = 2
    rotate_left
    · refine ⟨_, rfl, l1, _, rfl, .inl (SqL.of upd_same), rfl, _, rfl, ifNP (fun e => hl2 ?_) ⟨by decide, q _ (same_new hl1 _)⟩⟩
      have e := V.int.inj e
      rw [List.length_map] at e
      omega
    obtain ⟨a, b, hab⟩ : ∃ a b, Txt.split z (sg 58) = [a, b] := by
      match e : Txt.split z (sg 58), hl2 with
      | [a, b], _ => exact ⟨a, b, rfl⟩
    rw [hab]
    have s1 := same_new hl1 (.lst ([a, b].map V.str))
    have hma : a ∈ Txt.split z (sg 58) := by rw [hab]; simp
    have hmb : b ∈ Txt.split z (sg 58) := by rw [hab]; simp
    have hal := PyProof.Rows.part_short hma
    have hbl := PyProof.Rows.part_short hmb
    have hc2 := split_cnt b 32
    refine ⟨_, rfl, l1, _, rfl, .inl (SqL.of upd_same), rfl, _, rfl, ifNN rfl ?_⟩
    refine ⟨_, rfl, l1, _, _, _, rfl, rfl, SqL.of upd_same, atI_nat (j := 1) rfl, rfl, b, 32, rfl, rfl, by omega, by omega, fun l2 hl2 => ?_⟩
    obtain ⟨w0, ws, hw, _⟩ := split_cons b 32
    rw [hw]
    rw [hw, List.length_cons] at hc2
    have s2 := same_new hl2 (.lst ((w0 :: ws).map V.str))
    have s12 := s1.trans s2
    have e1 := s2 _ _ (show upd H l1 _ l1 = _ from upd_same)
    by_cases hw0 : w0 = Str.empty
    rotate_left
    · exact ⟨_, rfl, l2, _, _, _, rfl, rfl, SqL.of upd_same, atI_nat (j := 0) rfl, rfl, _, rfl, ifNP (fun e => hw0 (V.str.inj e)) ⟨by decide, q _ s12⟩⟩
    subst hw0
    refine ⟨_, rfl, l2, _, _, _, rfl, rfl, SqL.of upd_same, atI_nat (j := 0) rfl, rfl, _, rfl, ifNN rfl ?_⟩
    refine ⟨_, rfl, l1, _, _, _, rfl, rfl, SqL.of e1, atI_nat (j := 0) rfl, a, rfl, by omega, fun c hc => hasc c (split_mem hma hc), ?_⟩
    by_cases hga : ∃ n, n < 100 ∧ a = numT n
    rotate_left
    · exact .inr ⟨fun n hn e => hga ⟨n, hn, e⟩, fun H' s' => q _ (s12.trans s')⟩
    obtain ⟨n, hn, hna⟩ := hga
    refine .inl ⟨n, hna, hn, fun H3 s3 => ?_⟩
    have e2 := s3 _ _ (show upd _ l2 (HO.lst ((Str.empty :: ws).map V.str)) l2 = _ from upd_same)
    refine ⟨_, rfl, _, rfl, l2, _, rfl, SqL.of e2, fun p hp => ?_⟩
    rw [show cutV ((Str.empty :: ws).map V.str) (some 1) none = ws.map V.str from cut1 _ _]
    have s4 := same_new hp (.lst (ws.map V.str))
    have s04 : Same H (upd H3 p (.lst (ws.map V.str))) := s12.trans (s3.trans s4)
    refine ⟨p, rfl, ⟨_, SqL.of upd_same⟩, fun pc hpc => ?_⟩
    obtain ⟨x0, hx0, hxb⟩ : ∃ x ∈ ws, ∀ m, m < 100 → x ≠ numT m := Classical.byContradiction fun hno => by
      obtain ⟨ms, e, hm⟩ := nums_of (ws := ws) fun x hx => Classical.byContradiction fun hn' => hno ⟨x, hx, fun m hm e => hn' ⟨m, hm, e⟩⟩
      exact hb n ms hn hm (note_of hab hw hna e)
    obtain ⟨j, hj⟩ := List.getElem?_of_mem hx0
    have hsh : ∀ x ∈ ws, x.length ≤ 1000 ∧ ∀ c ∈ x.cps.toList, c < 128 := fun x hx => by
      have hm : x ∈ Txt.split b (sg 32) := by rw [hw]; exact List.mem_cons_of_mem _ hx
      have := PyProof.Rows.part_short hm
      exact ⟨by omega, fun c hc => hasc c (split_mem hmb (split_mem hm hc))⟩
    refine comp_listE (K := K) (xs := ws.map V.str) (rest := []) (j := j) (x0 := .str x0) valV (by rw [List.length_map]; omega) (SqL.of upd_same) hpc ⟨none, rfl⟩ (by rw [List.getElem?_map, hj]; rfl) ?_ ?_
    · intro x H' R' hx s' hR
      obtain ⟨y, hy, rfl⟩ := List.mem_map.mp hx
      obtain ⟨y1, y2⟩ := hsh y hy
      refine ⟨_, rfl, y, rfl, y1, y2, ?_⟩
      by_cases hg : ∃ m, m < 100 ∧ y = numT m
      · obtain ⟨m, hm, rfl⟩ := hg
        refine .inl ⟨m, rfl, hm, fun H2 s2' => ?_⟩
        have := hR H2 s2'
        rw [show valV (.str (numT m)) = .int ((valN (numT m) : Nat) : Int) from rfl, valN_numT m hm] at this
        exact this
      · exact .inr ⟨fun m hm e => hg ⟨m, hm, e⟩, fun H2 s2' => q _ (s04.trans (s'.trans s2'))⟩
    · intro H' R' s'
      obtain ⟨y1, y2⟩ := hsh x0 hx0
      exact ⟨_, rfl, x0, rfl, y1, y2, .inr ⟨hxb, fun H2 s2' => q _ (s04.trans (s'.trans s2'))⟩⟩
  · have hwl := words_len ms hm
    have htl := TX_ge n ms
    rw [TX_parts hn hm]
    have s1 := same_new hl1 (.lst ([numT n, Str.join (sg 32) (Str.empty :: ms.map numT)].map V.str))
    refine ⟨_, rfl, l1, _, rfl, .inl (SqL.of upd_same), rfl, _, rfl, ifNN rfl ?_⟩
    have hbl := PyProof.Rows.part_short (x := TX n ms) (y := sg 58) (a := Str.join (sg 32) (Str.empty :: ms.map numT)) (by rw [TX_parts hn hm]; simp)
    refine ⟨_, rfl, l1, _, _, _, rfl, rfl, SqL.of upd_same, atI_nat (j := 1) rfl, rfl, Str.join (sg 32) (Str.empty :: ms.map numT), 32, rfl, rfl, by omega, by rw [TX_words hm, List.length_cons, List.length_map]; omega, fun l2 hl2 => ?_⟩
    rw [TX_words hm]
    have s2 := same_new hl2 (.lst ((Str.empty :: ms.map numT).map V.str))
    have e1 := s2 _ _ (show upd H l1 _ l1 = _ from upd_same)
    refine ⟨_, rfl, l2, _, _, _, rfl, rfl, SqL.of upd_same, atI_nat (j := 0) rfl, rfl, _, rfl, ifNN rfl ?_⟩
    refine ⟨_, rfl, l1, _, _, _, rfl, rfl, SqL.of e1, atI_nat (j := 0) rfl, numT n, rfl, num_sh hn, num_asc hn, .inl ⟨n, rfl, hn, fun H3 s3 => ?_⟩⟩
    have e2 := s3 _ _ (show upd _ l2 (HO.lst ((Str.empty :: ms.map numT).map V.str)) l2 = _ from upd_same)
    refine ⟨_, rfl, _, rfl, l2, _, rfl, SqL.of e2, fun p hp => ?_⟩
    rw [show cutV ((Str.empty :: ms.map numT).map V.str) (some 1) none = (ms.map numT).map V.str from cut1 _ _]
    have s4 := same_new hp (.lst ((ms.map numT).map V.str))
    refine ⟨p, rfl, ⟨_, SqL.of upd_same⟩, fun pc hpc => ?_⟩
    have s04 : Same H (upd H3 p (.lst ((ms.map numT).map V.str))) := s1.trans (s2.trans (s3.trans s4))
    refine comp_listS (K := K) (xs := (ms.map numT).map V.str) (rest := []) (fun _ => true) valV (by rw [List.length_map, List.length_map]; omega) (SqL.of upd_same) hpc ⟨none, rfl⟩ ?_ ?_ ?_
    · intro x H' R' hx s' hR; exact hR _ (Same.refl _)
    · intro x H' R' hx s' _ hR
      obtain ⟨y, hy, rfl⟩ := List.mem_map.mp hx
      obtain ⟨m, hmm, rfl⟩ := List.mem_map.mp hy
      refine ⟨_, rfl, numT m, rfl, num_sh (hm m hmm), num_asc (hm m hmm), .inl ⟨m, rfl, hm m hmm, fun H2 s2' => ?_⟩⟩
      have := hR H2 s2'
      rw [show valV (.str (numT m)) = .int ((valN (numT m) : Nat) : Int) from rfl, valN_numT m (hm m hmm)] at this
      exact this
    · intro H' s' ep
      have ew : (((ms.map numT).map V.str).filter (fun _ => true)).map valV = (intL ms).map V.int := by
        rw [List.filter_eq_self.mpr (fun _ _ => rfl), List.map_map, List.map_map]
        unfold intL
        rw [List.map_map]
        apply List.map_congr_left
        intro m hmm
        show V.int ((valN (numT m) : Nat) : Int) = V.int (m : Int)
        rw [valN_numT m (hm m hmm)]
      rw [ew] at ep
      have s05 := s04.trans s'
      refine ⟨_, rfl, _, rfl, (n : Int), pc, intL ms, rfl, SqL.of ep, ?_⟩
      rcases hq with ⟨hL, q⟩ | ⟨h1, h2, hL, q⟩
      · exact .inl ⟨by omega, q _ s05⟩
      · refine .inr ⟨by omega, by omega, ?_, q _ s05⟩
        rcases hL with hL | ⟨m, hmm, hL⟩
        · left; rw [intL_len]; omega
        · right; exact ⟨(m : Int), List.mem_map.mpr ⟨m, hmm, rfl⟩, .inr (by omega)⟩

abbrev s_law_cell_at : Stmt := top 18
theorem sc_law_cell_at : FnScope ["script", "k"] ["script", "k"] (defScope s_law_cell_at) := ⟨rfl, rfl, rfl, by decide +kernel, rfl, by decide +kernel, by decide +kernel⟩
def spCell (K : PySem.W.Frag) : Sp := fun vs H Q _ => ∃ (a : Addr) (ns : List Int) (k : Int), vs = [.ref a, .int k] ∧ SqL K H a (ns.map V.int) ∧ 0 ≤ k ∧ Q (.int (cellAt ns k)) H
theorem ok_law_cell_at (h : Src K mg "_law_cell_at" s_law_cell_at ["script", "k"]) (B : Blt mg) : Def P w K mg base 1 "_law_cell_at" ["script", "k"] (spCell K) := by
  refine def_of h sc_law_cell_at (fun vs H Q E h => ?_) (fun f cdv A outer s H vs Q E hr h => ?_)
  · obtain ⟨a, ns, k, rfl, _⟩ := h; rfl
  obtain ⟨a, ns, k, rfl, hS, h0, q⟩ := h
  refine ⟨_, (pss_cons (ps_if (pt_cmpR op_lt (pv 1) (pe_callB call_len_seq (by rfl) B.len PySem.boot_len (pa_cons (pv 0) pa_nil)) (nomark _)) (pss_one (ps_ret (pe_ix ix_list (pv 0) (pv 1) (fun _ _ => rfl)))) pss_nil)
      (pss_one (ps_ret pe_int))), ?_⟩
  refine ⟨_, rfl, _, rfl, a, _, rfl, .inl hS, _, _, rfl, rfl, _, rfl, ?_⟩
  refine ifD (fun c => ?_) (fun c => ?_)
  · rw [List.length_map] at c
    obtain ⟨z, hz, az⟩ := at_map V.int (l := ns) h0 c
    have e : cellAt ns k = z := by unfold cellAt; rw [List.getD_eq_getElem?_getD, hz]; rfl
    rw [e] at q
    exact ⟨_, rfl, _, rfl, a, _, _, _, rfl, rfl, hS, az, q⟩
  · rw [List.length_map] at c
    have e : cellAt ns k = 0 := by unfold cellAt; rw [List.getD_eq_getElem?_getD, List.getElem?_eq_none (by omega)]; rfl
    rw [e] at q
    exact q

abbrev s_law_quay_by : Stmt := top 19
theorem sc_law_quay_by : FnScope ["script", "long", "boats", "way", "wishes", "k", "cell"] ["script"] (defScope s_law_quay_by) := ⟨rfl, rfl, rfl, by decide +kernel, rfl, by decide +kernel, by decide +kernel⟩
def spQuayBy (K : PySem.W.Frag) : Sp := fun vs H Q _ => ∃ (a : Addr) (ns : List Int), vs = [.ref a] ∧ SqL K H a (ns.map V.int) ∧
  ∀ (t l : Addr) (L : Int) (ws : List Int) (H' : Hp), H t = none → H l = none → Same H H' → H' t = some (.tup [.int L, .ref l]) → H' l = some (.lst (ws.map V.int)) → 1 ≤ L → L ≤ 40 → (ws.length : Int) ≤ L → (∀ w ∈ ws, 0 ≤ w ∧ w < L) → Q (.ref t) H'
theorem ok_law_quay_by (h : Src K mg "_law_quay_by" s_law_quay_by ["script"]) (B : Blt mg) (D_law_cell_at : Def P w K mg base 1 "_law_cell_at" ["script", "k"] (spCell K)) : Def P w K mg base 2 "_law_quay_by" ["script"] (spQuayBy K) := by
  refine def_of h sc_law_quay_by (fun vs H Q E h => ?_) (fun f cdv A outer s H vs Q E hr h => ?_)
  · obtain ⟨a, ns, rfl, _⟩ := h; rfl
  obtain ⟨a, ns, rfl, hS, q⟩ := h
  refine ⟨_, (pss_cons (ps_set (i := 1) sc_law_quay_by.nd rfl (Or.inl rfl) (pe_op op_add pe_int (pe_op op_mod (pe_def D_law_cell_at (hr.mono (by decide)) (by rfl) (pa_cons (pv 0) (pa_cons pe_int pa_nil))) pe_int)))
      (pss_mid (ps_if (pt_cmpR op_eq (pe_op op_mod (pe_op op_fdiv (pe_def D_law_cell_at (hr.mono (by decide)) (by rfl) (pa_cons (pv 0) (pa_cons pe_int pa_nil))) pe_int) pe_int) pe_int (nomark _)) (pss_one (ps_set (i := 1) sc_law_quay_by.nd rfl (Or.inl rfl) (pe_op op_add pe_int (pe_op op_mod (pe_op op_fdiv (pe_def D_law_cell_at (hr.mono (by decide)) (by rfl) (pa_cons (pv 0) (pa_cons pe_int pa_nil))) pe_int) pe_int)))) pss_nil)
      (pss_cons (ps_set (i := 2) sc_law_quay_by.nd rfl (Or.inl rfl) (pv 1))
      (pss_mid (ps_if (pt_cmpR op_eq (pe_op op_mod (pe_def D_law_cell_at (hr.mono (by decide)) (by rfl) (pa_cons (pv 0) (pa_cons pe_int pa_nil))) pe_int) pe_int (nomark _)) (pss_one (ps_set (i := 2) sc_law_quay_by.nd rfl (Or.inl rfl) (pe_op op_mod (pe_op op_fdiv (pe_def D_law_cell_at (hr.mono (by decide)) (by rfl) (pa_cons (pv 0) (pa_cons pe_int pa_nil))) pe_int) (pe_op op_add (pv 1) pe_int)))) pss_nil)
      (pss_cons (ps_set (i := 3) sc_law_quay_by.nd rfl (Or.inl rfl) (pe_op op_mod (pe_def D_law_cell_at (hr.mono (by decide)) (by rfl) (pa_cons (pv 0) (pa_cons pe_int pa_nil))) pe_int))
      (pss_cons (ps_set (i := 4) sc_law_quay_by.nd rfl (Or.inl rfl) (pe_lst pa_nil))
      (pss_cons (ps_for PassesOwn.never rfl (pi_range1 (by rfl) B.range (pa_cons (pv 2) pa_nil)) (pg_name (i := 5) sc_law_quay_by.nd rfl (Or.inl rfl)) (pss_cons (ps_set (i := 6) sc_law_quay_by.nd rfl (Or.inl rfl) (pe_def D_law_cell_at (hr.mono (by decide)) (by rfl) (pa_cons (pv 0) (pa_cons (pe_op op_add pe_int (pe_op op_mod (pv 5) pe_int)) pa_nil))))
      (pss_one (ps_if (pt_cmpR op_eq (pv 3) pe_int (nomark _)) (pss_one (ps_expr (pe_bm PySem.F.plainAttrs_list PySem.F.slot_list_append PySem.F.type_list_append mt_append (pv 4) (pa_cons (pe_op op_mod (pv 6) (pe_op op_add pe_int (pe_op op_fdiv (pv 1) pe_int))) pa_nil)))) (pss_one (ps_if (pt_cmpR op_eq (pv 3) pe_int (nomark _)) (pss_one (ps_expr (pe_bm PySem.F.plainAttrs_list PySem.F.slot_list_append PySem.F.type_list_append mt_append (pv 4) (pa_cons (pe_op op_sub (pe_op op_sub (pv 1) pe_int) (pe_op op_mod (pv 6) (pe_op op_add pe_int (pe_op op_fdiv (pv 1) pe_int)))) pa_nil)))) (pss_one (ps_if (pt_cmpR op_eq (pv 3) pe_int (nomark _)) (pss_one (ps_expr (pe_bm PySem.F.plainAttrs_list PySem.F.slot_list_append PySem.F.type_list_append mt_append (pv 4) (pa_cons (pe_op op_mod (pv 6) (pe_op op_add pe_int (pv 5))) pa_nil)))) (pss_one (ps_expr (pe_bm PySem.F.plainAttrs_list PySem.F.slot_list_append PySem.F.type_list_append mt_append (pv 4) (pa_cons (pe_op op_mod (pv 6) (pv 1)) pa_nil))))))))))))
      (pss_one (ps_ret (pe_tup (pa_cons (pv 1) (pa_cons (pv 4) pa_nil)))))))))))), ?_⟩
  -- long
  refine ⟨_, rfl, a, ns, 0, rfl, hS, by omega, _, _, rfl, rfl, (by show (0 : Int) < 8; decide), _, _, rfl, rfl, ?_⟩
  refine ⟨fun σ H2 => H2 = H ∧ ∃ L : Int, σ = [some (.ref a), some (.int L), none, none, none, none, none] ∧ 1 ≤ L ∧ L ≤ 40, ?_, ?_⟩
  · refine ⟨_, rfl, a, ns, 0, rfl, hS, by omega, _, _, rfl, rfl, ⟨by decide, by decide⟩, _, _, rfl, rfl, (by show (0 : Int) < 3; decide), rfl, _, rfl, ?_⟩
    refine ifD (fun _ => ?_) (fun _ => ?_)
    · refine ⟨_, rfl, a, ns, 0, rfl, hS, by omega, _, _, rfl, rfl, ⟨by decide, by decide⟩, _, _, rfl, rfl, (by show (0 : Int) < 40; decide), _, _, rfl, rfl, rfl, _, rfl, ?_, ?_⟩
      · have := em (cellAt ns 0 / 24) 40 (by decide); omega
      · have := em (cellAt ns 0 / 24) 40 (by decide); omega
    · refine ⟨rfl, _, rfl, ?_, ?_⟩
      · have := em (cellAt ns 0) 8 (by decide); omega
      · have := em (cellAt ns 0) 8 (by decide); omega
  rintro σ H2 ⟨rfl, L, rfl, h1, h2⟩
  -- boats
  refine ⟨_, rfl, ?_⟩
  refine ⟨fun σ H3 => H3 = H2 ∧ ∃ b : Int, σ = [some (.ref a), some (.int L), some (.int b), none, none, none, none] ∧ 0 ≤ b ∧ b ≤ L, ?_, ?_⟩
  · refine ⟨_, rfl, a, ns, 1, rfl, hS, by omega, _, _, rfl, rfl, (by show (0 : Int) < 3; decide), rfl, _, rfl, ?_⟩
    refine ifD (fun _ => ?_) (fun _ => ?_)
    · refine ⟨_, rfl, a, ns, 1, rfl, hS, by omega, _, _, rfl, rfl, ⟨by decide, by decide⟩, _, rfl, _, _, rfl, rfl, _, _, rfl, rfl, (by show (0 : Int) < L + 1; omega), rfl, _, rfl, ?_, ?_⟩
      · have := em (cellAt ns 1 / 3) (L + 1) (by omega); omega
      · have := em (cellAt ns 1 / 3) (L + 1) (by omega); omega
    · exact ⟨rfl, _, rfl, by omega, by omega⟩
  rintro σ H3 ⟨rfl, b, rfl, b1, b2⟩
  -- way; wishes = []
  refine ⟨_, rfl, a, ns, 2, rfl, hS, by omega, _, _, rfl, rfl, (by show (0 : Int) < 4; decide), ?_⟩
  refine ⟨small (by show 0 ≤ 1000; decide), fun l hl => ?_⟩
  have s1 : Same H3 (upd H3 l (.lst [])) := same_new hl _
  refine ⟨_, rfl, _, rfl, by omega, by omega, ?_⟩
  refine for_range (fun i σ H4 => ∃ (ws : List Int) (v5 v6 : Option V), σ = [some (.ref a), some (.int L), some (.int b), some (.int (cellAt ns 2 % 4)), some (.ref l), v5, v6] ∧ Same H3 H4 ∧ H4 l = some (.lst (ws.map V.int)) ∧ ws.length = i ∧ ∀ w ∈ ws, 0 ≤ w ∧ w < L)
    ⟨[], none, none, rfl, s1, upd_same, rfl, fun w hw => by cases hw⟩ ?_ ?_
  · rintro i σ H4 hi ⟨ws, v5, v6, rfl, s4, el, hw, hb⟩
    have hS4 := s4.seq hS
    have fin : ∀ z : Int, 0 ≤ z → z < L → ∃ (ws' : List Int) (v5 v6 : Option V), [some (V.ref a), some (.int L), some (.int b), some (.int (cellAt ns 2 % 4)), some (.ref l), some (.int (0 + (i : Int))), some (.int (cellAt ns (3 + (0 + (i : Int)) % 50)))] = [some (.ref a), some (.int L), some (.int b), some (.int (cellAt ns 2 % 4)), some (.ref l), v5, v6] ∧
        Same H3 (upd H4 l (.lst (ws.map V.int ++ [.int z]))) ∧ (upd H4 l (.lst (ws.map V.int ++ [.int z]))) l = some (.lst (ws'.map V.int)) ∧ ws'.length = i + 1 ∧ ∀ w ∈ ws', 0 ≤ w ∧ w < L := fun z z1 z2 => by
      refine ⟨ws ++ [z], _, _, rfl, same_upd s4 hl _, by rw [upd_same, List.map_append]; rfl, by rw [List.length_append, hw]; rfl, fun v hv => ?_⟩
      rcases List.mem_append.mp hv with e | e
      · exact hb v e
      · have : v = z := by simpa using e
        omega
    have elen : (ws.map V.int).length < sizeLine := by rw [List.length_map]; exact small1000 (by omega)
    have h3 : 0 ≤ L / 3 ∧ L / 3 < L := by omega
    refine ⟨_, rfl, _, rfl, _, _, rfl, rfl, (by show (0 : Int) < 50; decide), _, _, rfl, rfl, a, ns, _, rfl, hS4, ?_, ?_⟩
    · have := em (0 + (i : Int)) 50 (by decide); omega
    refine ⟨_, rfl, rfl, _, rfl, ?_⟩
    refine ifD (fun _ => ?_) (fun _ => ?_)
    · refine ⟨_, rfl, .inl ⟨rfl, _, SqL.of el⟩, _, rfl, _, rfl, _, _, rfl, rfl, ⟨by decide, by decide⟩, _, _, rfl, rfl, _, _, rfl, rfl, (by show (0 : Int) < 1 + L / 3; omega), l, _, _, rfl, rfl, el, elen, fin _ ?_ ?_⟩
      · have := em (cellAt ns (3 + (0 + (i : Int)) % 50)) (1 + L / 3) (by omega); omega
      · have := em (cellAt ns (3 + (0 + (i : Int)) % 50)) (1 + L / 3) (by omega); omega
    refine ⟨_, rfl, rfl, _, rfl, ?_⟩
    refine ifD (fun _ => ?_) (fun _ => ?_)
    · refine ⟨_, rfl, .inl ⟨rfl, _, SqL.of el⟩, _, rfl, _, _, rfl, rfl, _, rfl, _, rfl, _, _, rfl, rfl, ⟨by decide, by decide⟩, _, _, rfl, rfl, _, _, rfl, rfl, (by show (0 : Int) < 1 + L / 3; omega), _, _, rfl, rfl, l, _, _, rfl, rfl, el, elen, fin _ ?_ ?_⟩
      · have := em (cellAt ns (3 + (0 + (i : Int)) % 50)) (1 + L / 3) (by omega); omega
      · have := em (cellAt ns (3 + (0 + (i : Int)) % 50)) (1 + L / 3) (by omega); omega
    refine ⟨_, rfl, rfl, _, rfl, ?_⟩
    refine ifD (fun _ => ?_) (fun _ => ?_)
    · refine ⟨_, rfl, .inl ⟨rfl, _, SqL.of el⟩, _, rfl, _, rfl, _, _, rfl, rfl, _, _, rfl, rfl, (by show (0 : Int) < 1 + (0 + (i : Int)); omega), l, _, _, rfl, rfl, el, elen, fin _ ?_ ?_⟩
      · have := em (cellAt ns (3 + (0 + (i : Int)) % 50)) (1 + (0 + (i : Int))) (by omega); omega
      · have := em (cellAt ns (3 + (0 + (i : Int)) % 50)) (1 + (0 + (i : Int))) (by omega); omega
    · refine ⟨_, rfl, .inl ⟨rfl, _, SqL.of el⟩, _, rfl, _, rfl, _, _, rfl, rfl, (by show (0 : Int) < L; omega), l, _, _, rfl, rfl, el, elen, fin _ ?_ ?_⟩
      · have := em (cellAt ns (3 + (0 + (i : Int)) % 50)) L (by omega); omega
      · have := em (cellAt ns (3 + (0 + (i : Int)) % 50)) L (by omega); omega
  · rintro σ H4 ⟨ws, v5, v6, rfl, s4, el, hw, hb⟩
    refine ⟨_, rfl, _, rfl, small (by show 2 ≤ 1000; decide), fun t ht => ?_⟩
    exact q t l L ws _ (s4.free ht) hl (s4.trans (same_new ht _)) upd_same (by rw [upd_ne (ne_of_none el ht)]; exact el) h1 h2 (by omega) hb

abbrev s_law_word_of : Stmt := top 20
theorem sc_law_word_of : FnScope ["e", "kinds"] ["e"] (defScope s_law_word_of) := ⟨rfl, rfl, rfl, by decide +kernel, rfl, by decide +kernel, by decide +kernel⟩
theorem ifF {A B : Prop} (h : B) : if (!true) = true then A else B := by rw [if_neg (by decide)]; exact h
def wordAt (i : Nat) : Str := (["quay", "row", "outcome", "tree", "rank", "note"] : List Str).getD i "other"
/-- the word for a refusal of the i-th class -/
def spWord (Cs : List Addr) (i : Nat) : Sp := fun vs H Q _ => ∃ a : Addr, vs = [.ref a] ∧ H a = some (XO a (Cs.getD i 0)) ∧ ∀ H', Same H H' → Q (.str (wordAt i)) H'
theorem ok_law_word_of (h : Src K mg "_law_word_of" s_law_word_of ["e"]) (B : Blt mg) (R : Errs K mg M C0 C1 C2 C3 C4 C5) : ∀ i, i < 6 → DefH P w K mg base 1 "_law_word_of" ["e"] (spWord [C0, C1, C2, C3, C4, C5] i) := by
  intro i hi
  refine def_ofH h sc_law_word_of (fun vs H Q E h => ?_) (fun f cdv A outer s H vs Q E hr h => ?_)
  · obtain ⟨a, rfl, _⟩ := h; rfl
  obtain ⟨a, rfl, ha, q⟩ := h
  have X := R.x i hi
  have hV := R.v i hi
  have k0 := R.k i 0 hi (by decide)
  have k1 := R.k i 1 hi (by decide)
  have k2 := R.k i 2 hi (by decide)
  have k3 := R.k i 3 hi (by decide)
  have k4 := R.k i 4 hi (by decide)
  have k5 := R.k i 5 hi (by decide)
  refine ⟨_, (pss_cons (ps_set (i := 1) sc_law_word_of.nd rfl (Or.inl rfl) (pe_lst (pa_cons (pe_callB (show CallR _ _ (rIsx K) from call_isx) (by rfl) B.isinstance (by decide +kernel) (pa_cons (pv 0) (pa_cons (pe_glob (v := .ref C0) (by rfl) R.g0 rfl) pa_nil))) (pa_cons (pe_callB (show CallR _ _ (rIsx K) from call_isx) (by rfl) B.isinstance (by decide +kernel) (pa_cons (pv 0) (pa_cons (pe_glob (v := .ref C1) (by rfl) R.g1 rfl) pa_nil))) (pa_cons (pe_callB (show CallR _ _ (rIsx K) from call_isx) (by rfl) B.isinstance (by decide +kernel) (pa_cons (pv 0) (pa_cons (pe_glob (v := .ref C2) (by rfl) R.g2 rfl) pa_nil))) (pa_cons (pe_callB (show CallR _ _ (rIsx K) from call_isx) (by rfl) B.isinstance (by decide +kernel) (pa_cons (pv 0) (pa_cons (pe_glob (v := .ref C3) (by rfl) R.g3 rfl) pa_nil))) pa_nil))))))
      (pss_cons (ps_set (i := 1) sc_law_word_of.nd rfl (Or.inl rfl) (pe_op op_cat (pv 1) (pe_lst (pa_cons (pe_callB (show CallR _ _ (rIsx K) from call_isx) (by rfl) B.isinstance (by decide +kernel) (pa_cons (pv 0) (pa_cons (pe_glob (v := .ref C4) (by rfl) R.g4 rfl) pa_nil))) (pa_cons (pe_callB (show CallR _ _ (rIsx K) from call_isx) (by rfl) B.isinstance (by decide +kernel) (pa_cons (pv 0) (pa_cons (pe_glob (v := .ref C5) (by rfl) R.g5 rfl) pa_nil))) pa_nil)))))
      (pss_cons (ps_if ((pw_or (pt_cmpR op_ne (pe_bm PySem.F.plainAttrs_list PySem.F.slot_list_count PySem.F.type_list_count mt_count (pv 1) (pa_cons pe_bl pa_nil)) pe_int (nomark _)) (pw_or1 (pt_not (pt_val (pe_callB (show CallR _ _ (rIsx K) from call_isx) (by rfl) B.isinstance (by decide +kernel) (pa_cons (pv 0) (pa_cons (pe_bltn (v := .ty "ValueError") (by rfl) B.ValueError (by decide +kernel) rfl) pa_nil)))))))).pt (pss_one (ps_ret pe_str)) pss_nil)
      (pss_one (ps_ret (pe_ix ix_list (pe_lst (pa_cons pe_str (pa_cons pe_str (pa_cons pe_str (pa_cons pe_str (pa_cons pe_str (pa_cons pe_str pa_nil))))))) (pe_bm PySem.F.plainAttrs_list PySem.F.slot_list_index PySem.F.type_list_index mt_index (pv 1) (pa_cons pe_bl pa_nil)) (fun _ _ => rfl))))))), ?_⟩
  refine ⟨_, rfl, a, _, _, _, _, rfl, rfl, ha, X, k0, ?_⟩
  refine ⟨_, rfl, a, _, _, _, _, rfl, rfl, ha, X, k1, ?_⟩
  refine ⟨_, rfl, a, _, _, _, _, rfl, rfl, ha, X, k2, ?_⟩
  refine ⟨_, rfl, a, _, _, _, _, rfl, rfl, ha, X, k3, ?_⟩
  refine ⟨by show 4 ≤ sizeLine; decide, fun p hp => ?_⟩
  have s1 := same_new hp (.lst [V.bl (i == 0), .bl (i == 1), .bl (i == 2), .bl (i == 3)])
  have ha1 := s1 _ _ ha
  refine ⟨_, rfl, _, rfl, a, _, _, _, _, rfl, rfl, ha1, X, k4, ?_⟩
  refine ⟨_, rfl, a, _, _, _, _, rfl, rfl, ha1, X, k5, ?_⟩
  refine ⟨by show 2 ≤ sizeLine; decide, fun p2 hp2 => ?_⟩
  have s2 := s1.trans (same_new hp2 (.lst [V.bl (i == 4), .bl (i == 5)]))
  refine ⟨p, p2, _, _, rfl, rfl, (same_new hp2 _) _ _ upd_same, upd_same, by show 4 + 2 ≤ sizeLine; decide, fun p3 hp3 => ?_⟩
  have s3 := s2.trans (same_new hp3 (.lst ([V.bl (i == 0), .bl (i == 1), .bl (i == 2), .bl (i == 3)] ++ [V.bl (i == 4), .bl (i == 5)])))
  have ha3 := s3 _ _ ha
  have hc : (([V.bl (i == 0), .bl (i == 1), .bl (i == 2), .bl (i == 3)] ++ [V.bl (i == 4), .bl (i == 5)]).countP fun z => eqV z (.bl true)) = 1 ∧ (([V.bl (i == 0), .bl (i == 1), .bl (i == 2), .bl (i == 3)] ++ [V.bl (i == 4), .bl (i == 5)]).findIdx fun z => eqV z (.bl true)) = i := by
    match i, hi with
    | 0, _ => exact ⟨rfl, rfl⟩
    | 1, _ => exact ⟨rfl, rfl⟩
    | 2, _ => exact ⟨rfl, rfl⟩
    | 3, _ => exact ⟨rfl, rfl⟩
    | 4, _ => exact ⟨rfl, rfl⟩
    | 5, _ => exact ⟨rfl, rfl⟩
  refine ⟨_, rfl, .inl ⟨rfl, _, SqL.of upd_same⟩, p3, _, _, rfl, rfl, upd_same, rfl, rfl, ?_⟩
  rw [hc.1]
  refine ⟨rfl, _, rfl, ?_⟩
  refine ifNN rfl ?_
  refine ⟨_, rfl, a, _, _, _, _, rfl, rfl, ha3, X, hV, ?_⟩
  refine ⟨true, rfl, ifF ?_⟩
  refine ⟨by show 6 ≤ sizeLine; decide, fun p4 hp4 => ?_⟩
  have s4 := s3.trans (same_new hp4 (.lst [V.str "quay", .str "row", .str "outcome", .str "tree", .str "rank", .str "note"]))
  refine ⟨_, rfl, .inl ⟨rfl, _, SqL.of ((same_new hp4 _) _ _ upd_same)⟩, p3, _, _, rfl, rfl, (same_new hp4 _) _ _ upd_same, rfl, rfl, ?_, ?_⟩
  · rw [hc.2]; exact hi
  rw [hc.2]
  refine ⟨p4, _, _, V.str (wordAt i), rfl, rfl, SqL.of upd_same, ?_, q _ s4⟩
  match i, hi with
  | 0, _ => rfl
  | 1, _ => rfl
  | 2, _ => rfl
  | 3, _ => rfl
  | 4, _ => rfl
  | 5, _ => rfl

abbrev s_law_tried : Stmt := top 21
theorem sc_law_tried : FnScope ["text", "e"] ["text"] (defScope s_law_tried) := ⟨rfl, rfl, rfl, by decide +kernel, rfl, by decide +kernel, by decide +kernel⟩
def spTried (K : PySem.W.Frag) : Sp := fun vs H Q _ => ∃ z : Str, vs = [.str z] ∧ z.length ≤ 900 ∧ Asc z ∧
  ((BadN z ∧ ∀ H', Same H H' → Q (.str "note") H') ∨
   ∃ (n : Nat) (ms : List Nat), z = TX n ms ∧ n < 100 ∧ (∀ m ∈ ms, m < 100) ∧
    (((n < 1 ∨ 40 < n) ∧ ∀ H', Same H H' → Q (.str "quay") H') ∨ (1 ≤ n ∧ n ≤ 40 ∧ (n < ms.length ∨ ∃ m ∈ ms, n ≤ m) ∧ ∀ H', Same H H' → Q (.str "row") H') ∨
     (1 ≤ n ∧ n ≤ 40 ∧ ms.length ≤ n ∧ (∀ m ∈ ms, m < n) ∧ ∀ H', Same H H' → Q (.str "done") H')))
theorem ok_law_tried (h : Src K mg "_law_tried" s_law_tried ["text"]) (B : Blt mg) (R : Errs K mg M C0 C1 C2 C3 C4 C5) (D_law_word_of : ∀ i, i < 6 → DefH P w K mg base 1 "_law_word_of" ["e"] (spWord [C0, C1, C2, C3, C4, C5] i))
    (D_read : Def P w K mg base 3 "read" ["text"] (spRead K)) (D_readX : DefX P w K mg base 3 "read" ["text"] (spReadX K C0 C1 C5)) :
    Def P w K mg base 4 "_law_tried" ["text"] (spTried K) := by
  refine def_of h sc_law_tried (fun vs H Q E h => ?_) (fun f cdv A outer s H vs Q E hr h => ?_)
  · obtain ⟨z, rfl, _⟩ := h; rfl
  obtain ⟨z, rfl, hz, ha, h⟩ := h
  have fin : ∀ (i : Nat) (C : Addr) (bm : List Value) (Q : VK), excK K C bm = true → bm.contains (.ref M) = true → ([C0, C1, C2, C3, C4, C5] : List Addr).getD i 0 = C → (∀ H', Same H H' → Q (.str (wordAt i)) H') → ∀ H', Same H H' → ∃ (C' : Addr) (bm : List Value), (Value.ref C) = .ref C' ∧ excK K C' bm = true ∧ bm.contains (.ref M) = true ∧ ∀ b', H' b' = none → ∃ x, ([some (.str z), (none : Option V)].set 1 (some (.ref b')))[1]? = some (some x) ∧ spWord [C0, C1, C2, C3, C4, C5] i [x] (upd H' b' (XO b' C')) Q E0 :=
    fun i C bm Q hx hm hC q H' s' => ⟨C, bm, rfl, hx, hm, fun b' hn => ⟨_, rfl, b', rfl, by rw [hC]; exact upd_same, fun H2 s1 => q _ (s'.trans ((same_new hn _).trans s1))⟩⟩
  rcases h with ⟨hb, q⟩ | ⟨n, ms, rfl, hn, hm, ⟨hL, q⟩ | ⟨h1, h2, hL, q⟩ | ⟨h1, h2, h3, h4, q⟩⟩
  · refine ⟨_, (pss_cons (ps_try (i := 1) (M := M) rfl rfl rfl sc_law_tried.nd rfl rfl (by rfl) R.m R.mX (fun W pins E' hp => pss_one (ps_expr (pe_defX D_readX (hr.mono (by decide)) hp (by rfl) (pa_cons (pv 0) pa_nil)))) (fun a => pss_one (ps_ret (pe_defH (D_law_word_of 5 (by decide)) ((hr.marked _).mono (by decide)) (by rfl) (pa_cons (pv 1) pa_nil))))) (pss_one (ps_ret pe_str))), ?_⟩
    exact ⟨_, rfl, z, rfl, hz, ha, .inl ⟨hb, fin 5 C5 _ _ (R.e 5 (by decide)) (by simp) rfl q⟩⟩
  · refine ⟨_, (pss_cons (ps_try (i := 1) (M := M) rfl rfl rfl sc_law_tried.nd rfl rfl (by rfl) R.m R.mX (fun W pins E' hp => pss_one (ps_expr (pe_defX D_readX (hr.mono (by decide)) hp (by rfl) (pa_cons (pv 0) pa_nil)))) (fun a => pss_one (ps_ret (pe_defH (D_law_word_of 0 (by decide)) ((hr.marked _).mono (by decide)) (by rfl) (pa_cons (pv 1) pa_nil))))) (pss_one (ps_ret pe_str))), ?_⟩
    exact ⟨_, rfl, _, rfl, hz, ha, .inr ⟨n, ms, rfl, hn, hm, .inl ⟨hL, fin 0 C0 _ _ (R.e 0 (by decide)) (by simp) rfl q⟩⟩⟩
  · refine ⟨_, (pss_cons (ps_try (i := 1) (M := M) rfl rfl rfl sc_law_tried.nd rfl rfl (by rfl) R.m R.mX (fun W pins E' hp => pss_one (ps_expr (pe_defX D_readX (hr.mono (by decide)) hp (by rfl) (pa_cons (pv 0) pa_nil)))) (fun a => pss_one (ps_ret (pe_defH (D_law_word_of 1 (by decide)) ((hr.marked _).mono (by decide)) (by rfl) (pa_cons (pv 1) pa_nil))))) (pss_one (ps_ret pe_str))), ?_⟩
    exact ⟨_, rfl, _, rfl, hz, ha, .inr ⟨n, ms, rfl, hn, hm, .inr ⟨h1, h2, hL, fin 1 C1 _ _ (R.e 1 (by decide)) (by simp) rfl q⟩⟩⟩
  · refine ⟨_, (pss_cons (ps_try (i := 1) (M := M) rfl rfl rfl sc_law_tried.nd rfl rfl (by rfl) R.m R.mX (fun W pins E' hp => pss_one (ps_expr (pe_def D_read (hr.mono (by decide)) (by rfl) (pa_cons (pv 0) pa_nil)))) (fun a => pss_never)) (pss_one (ps_ret pe_str))), ?_⟩
    exact ⟨_, rfl, n, ms, rfl, h1, h2, h3, h4, fun t l H' s1 _ _ _ _ => q _ s1⟩

abbrev s_law_spoilt : Stmt := top 22
theorem sc_law_spoilt : FnScope ["parts", "way", "at", "colon"] ["parts", "way", "at"] (defScope s_law_spoilt) := ⟨rfl, rfl, rfl, by decide +kernel, rfl, by decide +kernel, by decide +kernel⟩
def spSpoilt (K : PySem.W.Frag) : Sp := fun vs H Q _ => ∃ (a : Addr) (way : Int) (k n : Nat) (ms : List Nat), vs = [.ref a, .int way, .int (k : Int)] ∧ SqL K H a ((P0 n ms).map V.str) ∧ n < 100 ∧ (∀ m ∈ ms, m < 100) ∧ ms.length ≤ 40 ∧ (k ≤ ms.length ∨ (way = 1 ∧ k = ms.length + 1)) ∧
  ∀ (l : Addr) (H' : Hp) (L : List Str) (j : Nat) (y : Str), Same H H' → H l = none → H' l = some (.lst (L.map V.str)) → L[j]? = some y → (j = 0 → ¬ HeadW y) → (0 < j → ¬ NumW y) → (∀ x ∈ L, Cl x) → wt L ≤ 800 → (2 ≤ way → way < 6 → 0 < k → 0 < j) → Q (.ref l) H'
theorem map3 (A B : List Str) (y : Str) : (A.map V.str ++ [V.str y]) ++ B.map V.str = (A ++ y :: B).map V.str := by simp
theorem four_pick {k : Int} (h1 : 0 ≤ k) (h2 : k < 4) : ∃ z : Str, atI [V.str "100", .str "240", .str "999", .str "1000"] k = some (.str z) ∧ 3 ≤ z.length ∧ z.length ≤ 4 ∧ Cl z := by
  have : k = 0 ∨ k = 1 ∨ k = 2 ∨ k = 3 := by omega
  rcases this with rfl | rfl | rfl | rfl
  · exact ⟨_, rfl, by decide, by decide, by decide, by unfold Asc; decide⟩
  · exact ⟨_, rfl, by decide, by decide, by decide, by unfold Asc; decide⟩
  · exact ⟨_, rfl, by decide, by decide, by decide, by unfold Asc; decide⟩
  · exact ⟨_, rfl, by decide, by decide, by decide, by unfold Asc; decide⟩
theorem app_emptyS (z : Str) : z ++ Str.empty = z := by
  apply str_toList; rw [app_toList]; show _ ++ [] = _; rw [List.append_nil]
theorem len_app (a b : Str) : (a ++ b).length = a.length + b.length := by rw [str_len, app_toList, List.length_append, ← str_len, ← str_len]
theorem ok_law_spoilt (h : Src K mg "_law_spoilt" s_law_spoilt ["parts", "way", "at"]) (B : Blt mg) : Def P w K mg base 1 "_law_spoilt" ["parts", "way", "at"] (spSpoilt K) := by
  refine def_of h sc_law_spoilt (fun vs H Q E h => ?_) (fun f cdv A outer s H vs Q E hr h => ?_)
  · obtain ⟨a, way, k, n, ms, rfl, _⟩ := h; rfl
  obtain ⟨a, way, k, n, ms, rfl, hS, hn, hm, hl40, hk, q⟩ := h
  have hP := p0_cl hn hm
  have hPl := p0_len n ms
  have hPm : ((P0 n ms).map V.str).length = ms.length + 1 := by rw [List.length_map, hPl]
  have fin : ∀ (l : Addr) (H' : Hp) (i : Nat) (y : Str) (r : List Str), Same H H' → H l = none → H' l = some (.lst (((P0 n ms).take i ++ y :: r).map V.str)) → Cl y → y.length ≤ 170 → (∀ x ∈ r, Cl x ∧ x.length ≤ 3) → r.length ≤ 42 → (i = 0 → ¬ HeadW y) → (0 < i → ¬ NumW y) → (2 ≤ way → way < 6 → 0 < k → 0 < i) → Q (.ref l) H' := by
    intro l H' i y r s1 hl el hy hyl hr' hrl h0 h1 hw
    have htl : ((P0 n ms).take i).length = min i (ms.length + 1) := by rw [List.length_take, hPl]
    refine q l H' _ (min i (ms.length + 1)) y s1 hl el ?_ (fun e => h0 (by omega)) (fun e => h1 (by omega)) ?_ ?_ (fun a b c => by have := hw a b c; omega)
    · rw [List.getElem?_append_right (by omega), htl, Nat.sub_self]; rfl
    · intro x hx
      rcases List.mem_append.mp hx with hx | hx
      · exact (hP x (List.mem_of_mem_take hx)).1
      · rcases List.mem_cons.mp hx with rfl | hx
        · exact hy
        · exact (hr' x hx).1
    · rw [wt_app, wt_cons]
      have a1 := wt_le (L := (P0 n ms).take i) (b := 3) fun x hx => (hP x (List.mem_of_mem_take hx)).2
      have a2 := wt_le (L := r) (b := 3) fun x hx => (hr' x hx).2
      omega
  have rd : ∀ j, (∀ x ∈ (P0 n ms).drop j, Cl x ∧ x.length ≤ 3) ∧ ((P0 n ms).drop j).length ≤ 41 := fun j => ⟨fun x hx => hP x (List.mem_of_mem_drop hx), by rw [List.length_drop, hPl]; omega⟩
  have lt : ∀ j, ((P0 n ms).take j).length ≤ 41 := fun j => by rw [List.length_take, hPl]; omega
  -- the word at a place
  have word : ∀ j : Nat, j ≤ ms.length → ∃ v : Str, (P0 n ms)[j]? = some v ∧ Cl v ∧ v.length ≤ 3 ∧ (j = 0 → v = numT n ++ sg 58) ∧ (0 < j → ∃ m, m < 100 ∧ v = numT m) := fun j hj => by
    cases j with
    | zero => exact ⟨numT n ++ sg 58, rfl, (hP _ List.mem_cons_self).1, (hP _ List.mem_cons_self).2, fun _ => rfl, fun z => absurd z (by decide)⟩
    | succ i =>
      have hi : i < ms.length := hj
      have hmi := hm _ (List.getElem_mem hi)
      exact ⟨numT ms[i], by show (ms.map numT)[i]? = _; rw [List.getElem?_map, List.getElem?_eq_getElem hi]; rfl, cl_num hmi, by have := fg_len _ hmi; omega, fun z => by omega, fun _ => ⟨ms[i], hmi, rfl⟩⟩
  refine ⟨_, (pss_cons (ps_if (pt_cmpR op_eq (pv 1) pe_int (nomark _)) (pss_one (ps_ret (pe_op op_cat (pe_lst (pa_cons (pe_slice sl_str (pe_ix ix_list (pv 0) pe_int (fun _ _ => rfl)) po_none (po_some (pe_un un_neg pe_int))) pa_nil)) (pe_slice sl_list (pv 0) (po_some pe_int) po_none)))) pss_nil)
      (pss_cons (ps_if (pt_cmpR op_eq (pv 1) pe_int (nomark _)) (pss_one (ps_ret (pe_op op_cat (pe_op op_cat (pe_slice sl_list (pv 0) po_none (po_some (pv 2))) (pe_lst (pa_cons pe_str pa_nil))) (pe_slice sl_list (pv 0) (po_some (pv 2)) po_none)))) pss_nil)
      (pss_cons (ps_if (pt_cmpR op_eq (pv 1) pe_int (nomark _)) (pss_one (ps_ret (pe_op op_cat (pe_op op_cat (pe_slice sl_list (pv 0) po_none (po_some (pv 2))) (pe_lst (pa_cons (pe_op op_add_str pe_str (pe_ix ix_list (pv 0) (pv 2) (fun _ _ => rfl))) pa_nil))) (pe_slice sl_list (pv 0) (po_some (pe_op op_add (pv 2) pe_int)) po_none)))) pss_nil)
      (pss_cons (ps_if (pt_cmpR op_eq (pv 1) pe_int (nomark _)) (pss_cons (ps_set (i := 3) sc_law_spoilt.nd rfl (Or.inl rfl) (pe_ifExp (pt_cmpR op_eq (pv 2) pe_int (nomark _)) pe_str pe_str))
      (pss_one (ps_ret (pe_op op_cat (pe_op op_cat (pe_slice sl_list (pv 0) po_none (po_some (pv 2))) (pe_lst (pa_cons (pe_op op_add_str (pe_ix ix_list (pe_lst (pa_cons pe_str (pa_cons pe_str (pa_cons pe_str (pa_cons pe_str pa_nil))))) (pe_op op_mod (pe_callB call_len_seq (by rfl) B.len PySem.boot_len (pa_cons (pv 0) pa_nil)) pe_int) (fun _ _ => rfl)) (pv 3)) pa_nil))) (pe_slice sl_list (pv 0) (po_some (pe_op op_add (pv 2) pe_int)) po_none))))) pss_nil)
      (pss_cons (ps_if (pt_cmpR op_eq (pv 1) pe_int (nomark _)) (pss_one (ps_ret (pe_op op_cat (pe_op op_cat (pe_slice sl_list (pv 0) po_none (po_some (pv 2))) (pe_lst (pa_cons (pe_op op_add_str pe_str (pe_ix ix_list (pv 0) (pv 2) (fun _ _ => rfl))) pa_nil))) (pe_slice sl_list (pv 0) (po_some (pe_op op_add (pv 2) pe_int)) po_none)))) pss_nil)
      (pss_cons (ps_if (pt_cmpR op_eq (pv 1) pe_int (nomark _)) (pss_one (ps_ret (pe_op op_cat (pe_op op_cat (pe_slice sl_list (pv 0) po_none (po_some (pv 2))) (pe_lst (pa_cons (pe_op op_add_str (pe_ix ix_list (pv 0) (pv 2) (fun _ _ => rfl)) pe_str) pa_nil))) (pe_slice sl_list (pv 0) (po_some (pe_op op_add (pv 2) pe_int)) po_none)))) pss_nil)
      (pss_cons (ps_if (pt_cmpR op_eq (pv 1) pe_int (nomark _)) (pss_one (ps_ret (pe_op op_cat (pe_lst (pa_cons pe_str pa_nil)) (pe_slice sl_list (pv 0) (po_some pe_int) po_none)))) pss_nil)
      (pss_cons (ps_if (pt_cmpR op_eq (pv 1) pe_int (nomark _)) (pss_one (ps_ret (pe_op op_cat (pe_slice sl_list (pv 0) po_none (po_some (pe_un un_neg pe_int))) (pe_lst (pa_cons (pe_op op_add_str (pe_ix ix_list (pv 0) (pe_un un_neg pe_int) (fun _ _ => rfl)) pe_str) pa_nil))))) pss_nil)
      (pss_cons (ps_if (pt_cmpR op_eq (pv 1) pe_int (nomark _)) (pss_one (ps_ret (pe_ifExp (pt_cmpR op_gt (pe_callB call_len_seq (by rfl) B.len PySem.boot_len (pa_cons (pv 0) pa_nil)) pe_int (nomark _)) (pe_op op_cat (pe_lst (pa_cons (pe_bm PySem.F.plainAttrs_str PySem.F.slot_str_join PySem.F.type_str_join mt_join pe_str (pa_cons (pe_slice sl_list (pv 0) po_none (po_some pe_int)) pa_nil)) pa_nil)) (pe_slice sl_list (pv 0) (po_some pe_int) po_none)) (pe_lst (pa_cons (pe_op op_add_str (pe_ix ix_list (pv 0) pe_int (fun _ _ => rfl)) pe_str) pa_nil))))) pss_nil)
      (pss_cons (ps_if (pt_cmpR op_eq (pv 1) pe_int (nomark _)) (pss_one (ps_ret (pe_op op_cat (pe_lst (pa_cons (pe_op op_add_str (pe_ix ix_list (pv 0) pe_int (fun _ _ => rfl)) pe_str) pa_nil)) (pe_slice sl_list (pv 0) (po_some pe_int) po_none)))) pss_nil)
      (pss_cons (ps_if (pt_cmpR op_eq (pv 1) pe_int (nomark _)) (pss_one (ps_ret (pe_op op_cat (pe_lst (pa_cons (pe_slice sl_str (pe_ix ix_list (pv 0) pe_int (fun _ _ => rfl)) po_none (po_some (pe_un un_neg pe_int))) (pa_cons pe_str pa_nil))) (pe_slice sl_list (pv 0) (po_some pe_int) po_none)))) pss_nil)
      (pss_cons (ps_if (pt_cmpR op_eq (pv 1) pe_int (nomark _)) (pss_one (ps_ret (pe_op op_cat (pe_op op_cat (pe_slice sl_list (pv 0) po_none (po_some (pv 2))) (pe_lst (pa_cons (pe_op op_add_str pe_str (pe_ix ix_list (pv 0) (pv 2) (fun _ _ => rfl))) pa_nil))) (pe_slice sl_list (pv 0) (po_some (pe_op op_add (pv 2) pe_int)) po_none)))) pss_nil)
      (pss_cons (ps_if (pt_cmpR op_eq (pv 1) pe_int (nomark _)) (pss_one (ps_ret (pe_op op_cat (pe_op op_cat (pe_slice sl_list (pv 0) po_none (po_some (pv 2))) (pe_lst (pa_cons (pe_op op_add_str (pe_ix ix_list (pv 0) (pv 2) (fun _ _ => rfl)) pe_str) pa_nil))) (pe_slice sl_list (pv 0) (po_some (pe_op op_add (pv 2) pe_int)) po_none)))) pss_nil)
      (pss_cons (ps_if (pt_cmpR op_eq (pv 1) pe_int (nomark _)) (pss_one (ps_ret (pe_op op_cat (pe_op op_cat (pe_slice sl_list (pv 0) po_none (po_some (pv 2))) (pe_lst (pa_cons (pe_op op_add_str (pe_ix ix_list (pv 0) (pv 2) (fun _ _ => rfl)) pe_str) pa_nil))) (pe_slice sl_list (pv 0) (po_some (pe_op op_add (pv 2) pe_int)) po_none)))) pss_nil)
      (pss_cons (ps_if (pt_cmpR op_eq (pv 1) pe_int (nomark _)) (pss_one (ps_ret (pe_ifExp (pt_cmpR op_gt (pe_callB call_len_seq (by rfl) B.len PySem.boot_len (pa_cons (pv 0) pa_nil)) pe_int (nomark _)) (pe_lst (pa_cons (pe_bm PySem.F.plainAttrs_str PySem.F.slot_str_join PySem.F.type_str_join mt_join pe_str (pa_cons (pv 0) pa_nil)) pa_nil)) (pe_lst (pa_cons (pe_op op_add_str (pe_ix ix_list (pv 0) pe_int (fun _ _ => rfl)) pe_str) pa_nil))))) pss_nil)
      (pss_one (ps_ret (pe_op op_cat (pe_slice sl_list (pv 0) po_none (po_some (pe_un un_neg pe_int))) (pe_lst (pa_cons (pe_op op_add_str (pe_ix ix_list (pv 0) (pe_un un_neg pe_int) (fun _ _ => rfl)) pe_str) pa_nil)))))))))))))))))))), ?_⟩
  refine ⟨_, rfl, rfl, _, rfl, ifD (fun e => ?_) (fun e => ?_)⟩
  · have ew : way = 0 := V.int.inj e
    refine ⟨_, rfl, a, _, _, _, rfl, rfl, hS, atI_nat (j := 0) rfl, _, rfl, _, rfl, _, _, rfl, rfl, rfl, small (by have := (hP _ List.mem_cons_self).2; omega), ?_⟩
    rw [show Txt.slice (numT n ++ sg 58) none (some (-1)) = numT n from cut_colon n hn]
    have SS := Same.refl H
    refine ⟨by show 1 ≤ sizeLine; decide, fun p2 hp2 => ?_⟩
    have s2 := same_new hp2 (.lst [V.str (numT n)])
    refine ⟨_, rfl, _, rfl, a, _, rfl, (SS.trans s2).seq hS, fun p4 hp4 => ?_⟩
    try rw [show (1 : Int) = ((1 : Nat) : Int) from rfl]
    rw [cutsD]
    have s4 := same_new hp4 (.lst (((P0 n ms).drop 1).map V.str))
    refine ⟨p2, p4, _, _, rfl, rfl, s4 _ _ upd_same, upd_same, small (by have := (rd 1).2; rw [List.length_map]; show 1 + _ ≤ 1000; omega), fun p5 hp5 => ?_⟩
    have s5 := SS.trans (s2.trans s4)
    refine fin p5 _ 0 (numT n) ((P0 n ms).drop 1) (s5.trans (same_new hp5 _)) (s5.free hp5) (by rw [upd_same]; rfl) (cl_num hn) (by have := fg_len n hn; omega) (rd _).1 (by have := (rd 1).2; have := (rd 2).2; omega) (fun _ => num_nohead hn) (fun z => absurd z (by decide)) (fun z1 z2 _ => by omega)
  have n0 : way ≠ 0 := fun z => e (by rw [z])
  clear e
  refine ⟨_, rfl, rfl, _, rfl, ifD (fun e => ?_) (fun e => ?_)⟩
  · have ew : way = 1 := V.int.inj e
    refine ⟨_, rfl, _, rfl, _, rfl, a, _, rfl, hS, fun p1 hp1 => ?_⟩
    rw [cutsT]
    have s1 := same_new hp1 (.lst (((P0 n ms).take k).map V.str))
    refine ⟨by show 1 ≤ sizeLine; decide, fun p2 hp2 => ?_⟩
    have s2 := same_new hp2 (.lst [V.str Str.empty])
    refine ⟨p1, p2, _, _, rfl, rfl, s2 _ _ upd_same, upd_same, small (by have := lt k; rw [List.length_map]; show _ + 1 ≤ 1000; omega), fun p3 hp3 => ?_⟩
    have s3 := same_new hp3 (.lst (((P0 n ms).take k).map V.str ++ [V.str Str.empty]))
    refine ⟨_, rfl, _, rfl, _, rfl, a, _, rfl, (s1.trans (s2.trans s3)).seq hS, fun p4 hp4 => ?_⟩
    rw [cutsD]
    have s4 := same_new hp4 (.lst (((P0 n ms).drop k).map V.str))
    refine ⟨p3, p4, _, _, rfl, rfl, s4 _ _ upd_same, upd_same, small (by have := lt k; have := (rd k).2; rw [List.length_append, List.length_map, List.length_map]; show _ + 1 + _ ≤ 1000; omega), fun p5 hp5 => ?_⟩
    have s5 := s1.trans (s2.trans (s3.trans s4))
    refine fin p5 _ k Str.empty ((P0 n ms).drop k) (s5.trans (same_new hp5 _)) (s5.free hp5) (by rw [upd_same]; exact congrArg (fun z => some (HO.lst z)) (map3 _ _ _)) cl_empty (by decide) (rd _).1 (by have := (rd k).2; omega) (fun _ => empty_no.1) (fun _ => empty_no.2) (fun _ _ z => z)
  have n1 : way ≠ 1 := fun z => e (by rw [z])
  clear e
  refine ⟨_, rfl, rfl, _, rfl, ifD (fun e => ?_) (fun e => ?_)⟩
  · have ew : way = 2 := V.int.inj e
    have hk' : k ≤ ms.length := by omega
    obtain ⟨v, hv, vC, vl, v0, v1⟩ := word k hk'
    have hat : atI ((P0 n ms).map V.str) (k : Int) = some (.str v) := atI_nat (by rw [List.getElem?_map, hv]; rfl)
    refine ⟨_, rfl, _, rfl, _, rfl, a, _, rfl, hS, fun p1 hp1 => ?_⟩
    rw [cutsT]
    have s1 := same_new hp1 (.lst (((P0 n ms).take k).map V.str))
    have E1 : upd H p1 (.lst (((P0 n ms).take k).map V.str)) p1 = _ := upd_same
    have SS := s1
    refine ⟨_, rfl, _, rfl, a, _, _, _, rfl, rfl, s1.seq hS, hat, _, _, rfl, rfl, small (by show 1 + v.length ≤ 1000; omega), ?_⟩

    refine ⟨by show 1 ≤ sizeLine; decide, fun p2 hp2 => ?_⟩
    have s2 := same_new hp2 (.lst [V.str (sg 48 ++ v)])
    refine ⟨p1, p2, _, _, rfl, rfl, s2 _ _ E1, upd_same, small (by have := lt k; rw [List.length_map]; show _ + 1 ≤ 1000; omega), fun p3 hp3 => ?_⟩
    have s3 := same_new hp3 (.lst (((P0 n ms).take k).map V.str ++ [V.str (sg 48 ++ v)]))
    refine ⟨_, rfl, _, rfl, _, _, rfl, rfl, _, rfl, a, _, rfl, (SS.trans (s2.trans s3)).seq hS, fun p4 hp4 => ?_⟩
    rw [show ((k : Int) + 1) = ((k + 1 : Nat) : Int) from rfl, cutsD]
    have s4 := same_new hp4 (.lst (((P0 n ms).drop (k + 1)).map V.str))
    refine ⟨p3, p4, _, _, rfl, rfl, s4 _ _ upd_same, upd_same, small (by have := lt k; have := (rd (k + 1)).2; rw [List.length_append, List.length_map, List.length_map]; show _ + 1 + _ ≤ 1000; omega), fun p5 hp5 => ?_⟩
    have s5 := SS.trans (s2.trans (s3.trans s4))
    refine fin p5 _ k (sg 48 ++ v) ((P0 n ms).drop (k + 1)) (s5.trans (same_new hp5 _)) (s5.free hp5) (by rw [upd_same]; exact congrArg (fun z => some (HO.lst z)) (map3 _ _ _)) ((cl_sg (by decide) (by decide)).app vC) (by rw [len_app]; show 1 + v.length ≤ 170; omega) (rd _).1 (by have := (rd (k + 1)).2; omega) (fun z => by rw [v0 z]; exact nought_head hn) (fun z => by obtain ⟨m, hm', e'⟩ := v1 z; rw [e']; exact nought_num hm') (fun _ _ z => z)
  have n2 : way ≠ 2 := fun z => e (by rw [z])
  clear e
  refine ⟨_, rfl, rfl, _, rfl, ifD (fun e => ?_) (fun e => ?_)⟩
  · have ew : way = 3 := V.int.inj e
    refine ⟨_, rfl, rfl, _, rfl, ifD (fun e2 => ?_) (fun e2 => ?_)⟩
    · have hk0 : k = 0 := by have e' := V.int.inj e2; omega
      have hk' : k ≤ ms.length := by omega
      obtain ⟨v, hv, vC, vl, v0, v1⟩ := word k hk'
      have hat : atI ((P0 n ms).map V.str) (k : Int) = some (.str v) := atI_nat (by rw [List.getElem?_map, hv]; rfl)
      refine ⟨_, rfl, _, rfl, _, rfl, a, _, rfl, hS, fun p1 hp1 => ?_⟩
      rw [cutsT]
      have s1 := same_new hp1 (.lst (((P0 n ms).take k).map V.str))
      refine ⟨by show 4 ≤ sizeLine; decide, fun p0 hp0 => ?_⟩
      have s0 := same_new hp0 (.lst [V.str "100", .str "240", .str "999", .str "1000"])
      have h4 := em (((P0 n ms).map V.str).length : Int) 4 (by decide)
      obtain ⟨z4, hz4, z41, z42, z4C⟩ := four_pick h4.1 h4.2
      refine ⟨_, rfl, a, _, rfl, .inl ((s1.trans s0).seq hS), _, _, rfl, rfl, (by show (0 : Int) < 4; decide), p0, _, _, _, rfl, rfl, SqL.of upd_same, hz4, _, rfl, _, _, rfl, rfl, small (by show z4.length + 1 ≤ 1000; omega), ?_⟩
      have E1 := s0 _ _ (show upd H p1 (.lst (((P0 n ms).take k).map V.str)) p1 = _ from upd_same)
      have SS := s1.trans s0

      refine ⟨by show 1 ≤ sizeLine; decide, fun p2 hp2 => ?_⟩
      have s2 := same_new hp2 (.lst [V.str (z4 ++ sg 58)])
      refine ⟨p1, p2, _, _, rfl, rfl, s2 _ _ E1, upd_same, small (by have := lt k; rw [List.length_map]; show _ + 1 ≤ 1000; omega), fun p3 hp3 => ?_⟩
      have s3 := same_new hp3 (.lst (((P0 n ms).take k).map V.str ++ [V.str (z4 ++ sg 58)]))
      refine ⟨_, rfl, _, rfl, _, _, rfl, rfl, _, rfl, a, _, rfl, (SS.trans (s2.trans s3)).seq hS, fun p4 hp4 => ?_⟩
      rw [show ((k : Int) + 1) = ((k + 1 : Nat) : Int) from rfl, cutsD]
      have s4 := same_new hp4 (.lst (((P0 n ms).drop (k + 1)).map V.str))
      refine ⟨p3, p4, _, _, rfl, rfl, s4 _ _ upd_same, upd_same, small (by have := lt k; have := (rd (k + 1)).2; rw [List.length_append, List.length_map, List.length_map]; show _ + 1 + _ ≤ 1000; omega), fun p5 hp5 => ?_⟩
      have s5 := SS.trans (s2.trans (s3.trans s4))
      refine fin p5 _ k (z4 ++ sg 58) ((P0 n ms).drop (k + 1)) (s5.trans (same_new hp5 _)) (s5.free hp5) (by rw [upd_same]; exact congrArg (fun z => some (HO.lst z)) (map3 _ _ _)) (z4C.app (cl_sg (by decide) (by decide))) (by rw [len_app]; show z4.length + 1 ≤ 170; omega) (rd _).1 (by have := (rd (k + 1)).2; omega) (fun _ => long_head z41) (fun z => absurd z (by omega)) (fun _ _ z => z)
    · have hk0 : 0 < k := by
        rcases Nat.eq_zero_or_pos k with z | z
        · exact absurd (by rw [z]; rfl) e2
        · exact z
      have hk' : k ≤ ms.length := by omega
      obtain ⟨v, hv, vC, vl, v0, v1⟩ := word k hk'
      have hat : atI ((P0 n ms).map V.str) (k : Int) = some (.str v) := atI_nat (by rw [List.getElem?_map, hv]; rfl)
      refine ⟨_, rfl, _, rfl, _, rfl, a, _, rfl, hS, fun p1 hp1 => ?_⟩
      rw [cutsT]
      have s1 := same_new hp1 (.lst (((P0 n ms).take k).map V.str))
      refine ⟨by show 4 ≤ sizeLine; decide, fun p0 hp0 => ?_⟩
      have s0 := same_new hp0 (.lst [V.str "100", .str "240", .str "999", .str "1000"])
      have h4 := em (((P0 n ms).map V.str).length : Int) 4 (by decide)
      obtain ⟨z4, hz4, z41, z42, z4C⟩ := four_pick h4.1 h4.2
      refine ⟨_, rfl, a, _, rfl, .inl ((s1.trans s0).seq hS), _, _, rfl, rfl, (by show (0 : Int) < 4; decide), p0, _, _, _, rfl, rfl, SqL.of upd_same, hz4, _, rfl, _, _, rfl, rfl, small (by show z4.length + 0 ≤ 1000; omega), ?_⟩
      have E1 := s0 _ _ (show upd H p1 (.lst (((P0 n ms).take k).map V.str)) p1 = _ from upd_same)
      have SS := s1.trans s0

      refine ⟨by show 1 ≤ sizeLine; decide, fun p2 hp2 => ?_⟩
      have s2 := same_new hp2 (.lst [V.str (z4 ++ Str.empty)])
      refine ⟨p1, p2, _, _, rfl, rfl, s2 _ _ E1, upd_same, small (by have := lt k; rw [List.length_map]; show _ + 1 ≤ 1000; omega), fun p3 hp3 => ?_⟩
      have s3 := same_new hp3 (.lst (((P0 n ms).take k).map V.str ++ [V.str (z4 ++ Str.empty)]))
      refine ⟨_, rfl, _, rfl, _, _, rfl, rfl, _, rfl, a, _, rfl, (SS.trans (s2.trans s3)).seq hS, fun p4 hp4 => ?_⟩
      rw [show ((k : Int) + 1) = ((k + 1 : Nat) : Int) from rfl, cutsD]
      have s4 := same_new hp4 (.lst (((P0 n ms).drop (k + 1)).map V.str))
      refine ⟨p3, p4, _, _, rfl, rfl, s4 _ _ upd_same, upd_same, small (by have := lt k; have := (rd (k + 1)).2; rw [List.length_append, List.length_map, List.length_map]; show _ + 1 + _ ≤ 1000; omega), fun p5 hp5 => ?_⟩
      have s5 := SS.trans (s2.trans (s3.trans s4))
      refine fin p5 _ k (z4 ++ Str.empty) ((P0 n ms).drop (k + 1)) (s5.trans (same_new hp5 _)) (s5.free hp5) (by rw [upd_same]; exact congrArg (fun z => some (HO.lst z)) (map3 _ _ _)) (by rw [app_emptyS]; exact z4C) (by rw [app_emptyS]; omega) (rd _).1 (by have := (rd (k + 1)).2; omega) (fun z => absurd z (by omega)) (fun _ => by rw [app_emptyS]; exact long_num z41) (fun _ _ z => z)
  have n3 : way ≠ 3 := fun z => e (by rw [z])
  clear e
  refine ⟨_, rfl, rfl, _, rfl, ifD (fun e => ?_) (fun e => ?_)⟩
  · have ew : way = 4 := V.int.inj e
    have hk' : k ≤ ms.length := by omega
    obtain ⟨v, hv, vC, vl, v0, v1⟩ := word k hk'
    have hat : atI ((P0 n ms).map V.str) (k : Int) = some (.str v) := atI_nat (by rw [List.getElem?_map, hv]; rfl)
    refine ⟨_, rfl, _, rfl, _, rfl, a, _, rfl, hS, fun p1 hp1 => ?_⟩
    rw [cutsT]
    have s1 := same_new hp1 (.lst (((P0 n ms).take k).map V.str))
    have E1 : upd H p1 (.lst (((P0 n ms).take k).map V.str)) p1 = _ := upd_same
    have SS := s1
    refine ⟨_, rfl, _, rfl, a, _, _, _, rfl, rfl, s1.seq hS, hat, _, _, rfl, rfl, small (by show 1 + v.length ≤ 1000; omega), ?_⟩

    refine ⟨by show 1 ≤ sizeLine; decide, fun p2 hp2 => ?_⟩
    have s2 := same_new hp2 (.lst [V.str (sg 45 ++ v)])
    refine ⟨p1, p2, _, _, rfl, rfl, s2 _ _ E1, upd_same, small (by have := lt k; rw [List.length_map]; show _ + 1 ≤ 1000; omega), fun p3 hp3 => ?_⟩
    have s3 := same_new hp3 (.lst (((P0 n ms).take k).map V.str ++ [V.str (sg 45 ++ v)]))
    refine ⟨_, rfl, _, rfl, _, _, rfl, rfl, _, rfl, a, _, rfl, (SS.trans (s2.trans s3)).seq hS, fun p4 hp4 => ?_⟩
    rw [show ((k : Int) + 1) = ((k + 1 : Nat) : Int) from rfl, cutsD]
    have s4 := same_new hp4 (.lst (((P0 n ms).drop (k + 1)).map V.str))
    refine ⟨p3, p4, _, _, rfl, rfl, s4 _ _ upd_same, upd_same, small (by have := lt k; have := (rd (k + 1)).2; rw [List.length_append, List.length_map, List.length_map]; show _ + 1 + _ ≤ 1000; omega), fun p5 hp5 => ?_⟩
    have s5 := SS.trans (s2.trans (s3.trans s4))
    refine fin p5 _ k (sg 45 ++ v) ((P0 n ms).drop (k + 1)) (s5.trans (same_new hp5 _)) (s5.free hp5) (by rw [upd_same]; exact congrArg (fun z => some (HO.lst z)) (map3 _ _ _)) ((cl_sg (by decide) (by decide)).app vC) (by rw [len_app]; show 1 + v.length ≤ 170; omega) (rd _).1 (by have := (rd (k + 1)).2; omega) (fun _ => (alien (c := 45) (by rw [app_toList]; exact List.mem_append_left _ (List.mem_singleton.mpr rfl)) (by decide)).1) (fun _ => (alien (c := 45) (by rw [app_toList]; exact List.mem_append_left _ (List.mem_singleton.mpr rfl)) (by decide)).2) (fun _ _ z => z)
  have n4 : way ≠ 4 := fun z => e (by rw [z])
  clear e
  refine ⟨_, rfl, rfl, _, rfl, ifD (fun e => ?_) (fun e => ?_)⟩
  · have ew : way = 5 := V.int.inj e
    have hk' : k ≤ ms.length := by omega
    obtain ⟨v, hv, vC, vl, v0, v1⟩ := word k hk'
    have hat : atI ((P0 n ms).map V.str) (k : Int) = some (.str v) := atI_nat (by rw [List.getElem?_map, hv]; rfl)
    refine ⟨_, rfl, _, rfl, _, rfl, a, _, rfl, hS, fun p1 hp1 => ?_⟩
    rw [cutsT]
    have s1 := same_new hp1 (.lst (((P0 n ms).take k).map V.str))
    have E1 : upd H p1 (.lst (((P0 n ms).take k).map V.str)) p1 = _ := upd_same
    have SS := s1
    refine ⟨_, rfl, _, rfl, a, _, _, _, rfl, rfl, s1.seq hS, hat, _, _, rfl, rfl, small (by show v.length + 1 ≤ 1000; omega), ?_⟩

    refine ⟨by show 1 ≤ sizeLine; decide, fun p2 hp2 => ?_⟩
    have s2 := same_new hp2 (.lst [V.str (v ++ sg 97)])
    refine ⟨p1, p2, _, _, rfl, rfl, s2 _ _ E1, upd_same, small (by have := lt k; rw [List.length_map]; show _ + 1 ≤ 1000; omega), fun p3 hp3 => ?_⟩
    have s3 := same_new hp3 (.lst (((P0 n ms).take k).map V.str ++ [V.str (v ++ sg 97)]))
    refine ⟨_, rfl, _, rfl, _, _, rfl, rfl, _, rfl, a, _, rfl, (SS.trans (s2.trans s3)).seq hS, fun p4 hp4 => ?_⟩
    rw [show ((k : Int) + 1) = ((k + 1 : Nat) : Int) from rfl, cutsD]
    have s4 := same_new hp4 (.lst (((P0 n ms).drop (k + 1)).map V.str))
    refine ⟨p3, p4, _, _, rfl, rfl, s4 _ _ upd_same, upd_same, small (by have := lt k; have := (rd (k + 1)).2; rw [List.length_append, List.length_map, List.length_map]; show _ + 1 + _ ≤ 1000; omega), fun p5 hp5 => ?_⟩
    have s5 := SS.trans (s2.trans (s3.trans s4))
    refine fin p5 _ k (v ++ sg 97) ((P0 n ms).drop (k + 1)) (s5.trans (same_new hp5 _)) (s5.free hp5) (by rw [upd_same]; exact congrArg (fun z => some (HO.lst z)) (map3 _ _ _)) (vC.app (cl_sg (by decide) (by decide))) (by rw [len_app]; show v.length + 1 ≤ 170; omega) (rd _).1 (by have := (rd (k + 1)).2; omega) (fun _ => (alien (c := 97) (by rw [app_toList]; exact List.mem_append_right _ (List.mem_singleton.mpr rfl)) (by decide)).1) (fun _ => (alien (c := 97) (by rw [app_toList]; exact List.mem_append_right _ (List.mem_singleton.mpr rfl)) (by decide)).2) (fun _ _ z => z)
  have n5 : way ≠ 5 := fun z => e (by rw [z])
  clear e
  refine ⟨_, rfl, rfl, _, rfl, ifD (fun e => ?_) (fun e => ?_)⟩
  · have ew : way = 6 := V.int.inj e
    have SS := Same.refl H
    refine ⟨by show 1 ≤ sizeLine; decide, fun p2 hp2 => ?_⟩
    have s2 := same_new hp2 (.lst [V.str (sg 58)])
    refine ⟨_, rfl, _, rfl, a, _, rfl, (SS.trans s2).seq hS, fun p4 hp4 => ?_⟩
    try rw [show (1 : Int) = ((1 : Nat) : Int) from rfl]
    rw [cutsD]
    have s4 := same_new hp4 (.lst (((P0 n ms).drop 1).map V.str))
    refine ⟨p2, p4, _, _, rfl, rfl, s4 _ _ upd_same, upd_same, small (by have := (rd 1).2; rw [List.length_map]; show 1 + _ ≤ 1000; omega), fun p5 hp5 => ?_⟩
    have s5 := SS.trans (s2.trans s4)
    refine fin p5 _ 0 (sg 58) ((P0 n ms).drop 1) (s5.trans (same_new hp5 _)) (s5.free hp5) (by rw [upd_same]; rfl) (cl_sg (by decide) (by decide)) (by decide) (rd _).1 (by have := (rd 1).2; have := (rd 2).2; omega) (fun _ => colon_nohead) (fun z => absurd z (by decide)) (fun z1 z2 _ => by omega)
  have n6 : way ≠ 6 := fun z => e (by rw [z])
  clear e
  refine ⟨_, rfl, rfl, _, rfl, ifD (fun e => ?_) (fun e => ?_)⟩
  · have ew : way = 7 := V.int.inj e
    obtain ⟨v, hv, vC, vl, v0, v1⟩ := word ms.length (Nat.le_refl _)
    have hx : (P0 n ms).map V.str = ((P0 n ms).take ms.length).map V.str ++ [V.str v] := by
      have e1 : P0 n ms = (P0 n ms).take ms.length ++ [v] := by
        have e := List.take_add_one (l := P0 n ms) (i := ms.length)
        rw [List.take_of_length_le (by omega), hv] at e
        exact e
      conv => lhs; rw [e1]
      rw [List.map_append]; rfl
    have hat : atI ((P0 n ms).map V.str) (-1) = some (.str v) := by rw [hx]; exact atI_last _ _
    refine ⟨_, rfl, _, rfl, _, rfl, a, _, rfl, hS, fun p1 hp1 => ?_⟩
    rw [show (-1 : Int) = -1 from rfl, cutsN, hPl, Nat.add_sub_cancel]
    have s1 := same_new hp1 (.lst (((P0 n ms).take ms.length).map V.str))
    refine ⟨_, rfl, _, rfl, a, _, _, _, rfl, rfl, s1.seq hS, hat, _, _, rfl, rfl, small (by show v.length + 1 ≤ 1000; omega), ?_⟩
    refine ⟨by show 1 ≤ sizeLine; decide, fun p2 hp2 => ?_⟩
    have s2 := same_new hp2 (.lst [V.str (v ++ sg 10)])
    refine ⟨p1, p2, _, _, rfl, rfl, s2 _ _ upd_same, upd_same, small (by have := lt ms.length; rw [List.length_map]; show _ + 1 ≤ 1000; omega), fun p5 hp5 => ?_⟩
    have s5 := s1.trans s2
    refine fin p5 _ ms.length (v ++ sg 10) [] (s5.trans (same_new hp5 _)) (s5.free hp5) (by rw [upd_same, List.map_append]; rfl) (vC.app (cl_sg (by decide) (by decide))) (by rw [len_app]; show v.length + 1 ≤ 170; omega) (fun _ z => nomatch z) (by decide) (fun _ => (alien (c := 10) (by rw [app_toList]; exact List.mem_append_right _ (List.mem_singleton.mpr rfl)) (by decide)).1) (fun _ => (alien (c := 10) (by rw [app_toList]; exact List.mem_append_right _ (List.mem_singleton.mpr rfl)) (by decide)).2) (fun z1 z2 _ => by omega)
  have n7 : way ≠ 7 := fun z => e (by rw [z])
  clear e
  refine ⟨_, rfl, rfl, _, rfl, ifD (fun e => ?_) (fun e => ?_)⟩
  · have ew : way = 9 := V.int.inj e
    refine ⟨_, rfl, a, _, rfl, .inl hS, _, _, rfl, rfl, _, rfl, ifD (fun e2 => ?_) (fun e2 => ?_)⟩
    · obtain ⟨m, ms', hms⟩ : ∃ m ms', ms = m :: ms' := by
        cases ms with
        | nil => rw [hPm] at e2; simp at e2
        | cons m r => exact ⟨m, r, rfl⟩
      have hmm := hm m (by rw [hms]; exact List.mem_cons_self)
      refine ⟨rfl, _, rfl, _, rfl, a, _, rfl, hS, fun p1 hp1 => ?_⟩
      rw [show (2 : Int) = ((2 : Nat) : Int) from rfl, cutsT]
      have s1 := same_new hp1 (.lst (((P0 n ms).take 2).map V.str))
      refine ⟨Str.empty, p1, (P0 n ms).take 2, rfl, rfl, SqL.of upd_same, by decide, ?_, ?_⟩
      · have w2 := wt_le (L := (P0 n ms).take 2) (b := 3) fun x hx => (hP x (List.mem_of_mem_take hx)).2
        have w3 := lt 2
        unfold wt at w2
        omega
      have SS := s1
      have ej : (Str.join Str.empty ((P0 n ms).take 2)).cps.toList = fg n ++ 58 :: fg m := by
        rw [hms, cat_toList]
        show (numT n ++ sg 58).cps.toList ++ ((numT m).cps.toList ++ []) = _
        rw [hd_toList, List.append_nil, List.append_assoc]; rfl
      refine ⟨by show 1 ≤ sizeLine; decide, fun p2 hp2 => ?_⟩
      have s2 := same_new hp2 (.lst [V.str (Str.join Str.empty ((P0 n ms).take 2))])
      refine ⟨_, rfl, _, rfl, a, _, rfl, (SS.trans s2).seq hS, fun p4 hp4 => ?_⟩
      try rw [show (2 : Int) = ((2 : Nat) : Int) from rfl]
      rw [cutsD]
      have s4 := same_new hp4 (.lst (((P0 n ms).drop 2).map V.str))
      refine ⟨p2, p4, _, _, rfl, rfl, s4 _ _ upd_same, upd_same, small (by have := (rd 2).2; rw [List.length_map]; show 1 + _ ≤ 1000; omega), fun p5 hp5 => ?_⟩
      have s5 := SS.trans (s2.trans s4)
      refine fin p5 _ 0 (Str.join Str.empty ((P0 n ms).take 2)) ((P0 n ms).drop 2) (s5.trans (same_new hp5 _)) (s5.free hp5) (by rw [upd_same]; rfl) ⟨by rw [ej]; intro z; rcases List.mem_append.mp z with z | z; exact fg_not hn (.inl (by omega)) z; rcases List.mem_cons.mp z with z | z; cases z; exact fg_not hmm (.inl (by omega)) z, by unfold Asc; rw [ej]; intro c z; rcases List.mem_append.mp z with z | z; (have := fg_mem n hn c z; omega); rcases List.mem_cons.mp z with z | z; (rw [z]; decide); (have := fg_mem m hmm c z; omega)⟩ (by rw [str_len, ej, List.length_append, List.length_cons]; have := fg_short hn; have := fg_short hmm; omega) (rd _).1 (by have := (rd 1).2; have := (rd 2).2; omega) (fun _ => head_tail hn ej (fg_ne hmm)) (fun z => absurd z (by decide)) (fun z1 z2 _ => by omega)
    · have hms : ms = [] := by
        cases ms with
        | nil => rfl
        | cons m r => exact absurd (by rw [hPm]; simp; omega) e2
      subst hms
      refine ⟨_, rfl, a, _, _, _, rfl, rfl, hS, atI_nat (j := 0) rfl, _, _, rfl, rfl, small (by have := (hP _ List.mem_cons_self).2; show (numT n ++ sg 58).length + 1 ≤ 1000; omega), ?_⟩
      refine ⟨by show 1 ≤ sizeLine; decide, fun p2 hp2 => ?_⟩
      refine fin p2 _ 0 ((numT n ++ sg 58) ++ sg 48) [] (same_new hp2 _) hp2 (by rw [upd_same]; rfl) ((cl_hd hn).app (cl_sg (by decide) (by decide))) (by rw [len_app]; have := (hP _ List.mem_cons_self).2; show (numT n ++ sg 58).length + 1 ≤ 170; omega) (fun _ z => nomatch z) (by decide) (fun _ => head_tail (u := [48]) hn (by rw [app_toList, hd_toList, List.append_assoc]; rfl) (by simp)) (fun z => absurd z (by decide)) (fun z1 z2 _ => by omega)
  have n9 : way ≠ 9 := fun z => e (by rw [z])
  clear e
  refine ⟨_, rfl, rfl, _, rfl, ifD (fun e => ?_) (fun e => ?_)⟩
  · have ew : way = 10 := V.int.inj e
    refine ⟨_, rfl, a, _, _, _, rfl, rfl, hS, atI_nat (j := 0) rfl, _, _, rfl, rfl, small (by have := (hP _ List.mem_cons_self).2; show (numT n ++ sg 58).length + 1 ≤ 1000; omega), ?_⟩
    have SS := Same.refl H
    refine ⟨by show 1 ≤ sizeLine; decide, fun p2 hp2 => ?_⟩
    have s2 := same_new hp2 (.lst [V.str ((numT n ++ sg 58) ++ sg 58)])
    refine ⟨_, rfl, _, rfl, a, _, rfl, (SS.trans s2).seq hS, fun p4 hp4 => ?_⟩
    try rw [show (1 : Int) = ((1 : Nat) : Int) from rfl]
    rw [cutsD]
    have s4 := same_new hp4 (.lst (((P0 n ms).drop 1).map V.str))
    refine ⟨p2, p4, _, _, rfl, rfl, s4 _ _ upd_same, upd_same, small (by have := (rd 1).2; rw [List.length_map]; show 1 + _ ≤ 1000; omega), fun p5 hp5 => ?_⟩
    have s5 := SS.trans (s2.trans s4)
    refine fin p5 _ 0 ((numT n ++ sg 58) ++ sg 58) ((P0 n ms).drop 1) (s5.trans (same_new hp5 _)) (s5.free hp5) (by rw [upd_same]; rfl) ((cl_hd hn).app (cl_sg (by decide) (by decide))) (by rw [len_app]; have := (hP _ List.mem_cons_self).2; show (numT n ++ sg 58).length + 1 ≤ 170; omega) (rd _).1 (by have := (rd 1).2; have := (rd 2).2; omega) (fun _ => head_tail (u := [58]) hn (by rw [app_toList, hd_toList, List.append_assoc]; rfl) (by simp)) (fun z => absurd z (by decide)) (fun z1 z2 _ => by omega)
  have n10 : way ≠ 10 := fun z => e (by rw [z])
  clear e
  refine ⟨_, rfl, rfl, _, rfl, ifD (fun e => ?_) (fun e => ?_)⟩
  · have ew : way = 11 := V.int.inj e
    refine ⟨_, rfl, a, _, _, _, rfl, rfl, hS, atI_nat (j := 0) rfl, _, rfl, _, rfl, _, _, rfl, rfl, rfl, small (by have := (hP _ List.mem_cons_self).2; omega), ?_⟩
    rw [show Txt.slice (numT n ++ sg 58) none (some (-1)) = numT n from cut_colon n hn]
    refine ⟨by show 2 ≤ sizeLine; decide, fun p2 hp2 => ?_⟩
    have s2 := same_new hp2 (.lst [V.str (numT n), .str (sg 58)])
    refine ⟨_, rfl, _, rfl, a, _, rfl, s2.seq hS, fun p4 hp4 => ?_⟩
    rw [show (1 : Int) = ((1 : Nat) : Int) from rfl, cutsD]
    have s4 := same_new hp4 (.lst (((P0 n ms).drop 1).map V.str))
    refine ⟨p2, p4, _, _, rfl, rfl, s4 _ _ upd_same, upd_same, small (by have := (rd 1).2; rw [List.length_map]; show 2 + _ ≤ 1000; omega), fun p5 hp5 => ?_⟩
    have s5 := s2.trans s4
    refine fin p5 _ 0 (numT n) (sg 58 :: (P0 n ms).drop 1) (s5.trans (same_new hp5 _)) (s5.free hp5) (by rw [upd_same]; rfl) (cl_num hn) (by have := fg_len n hn; omega) (fun x hx => ?_) (by have := (rd 1).2; rw [List.length_cons]; omega) (fun _ => num_nohead hn) (fun z => absurd z (by decide)) (fun z1 z2 _ => by omega)
    rcases List.mem_cons.mp hx with rfl | hx
    · exact ⟨cl_sg (by decide) (by decide), by decide⟩
    · exact (rd 1).1 x hx
  have n11 : way ≠ 11 := fun z => e (by rw [z])
  clear e
  refine ⟨_, rfl, rfl, _, rfl, ifD (fun e => ?_) (fun e => ?_)⟩
  · have ew : way = 12 := V.int.inj e
    have hk' : k ≤ ms.length := by omega
    obtain ⟨v, hv, vC, vl, v0, v1⟩ := word k hk'
    have hat : atI ((P0 n ms).map V.str) (k : Int) = some (.str v) := atI_nat (by rw [List.getElem?_map, hv]; rfl)
    refine ⟨_, rfl, _, rfl, _, rfl, a, _, rfl, hS, fun p1 hp1 => ?_⟩
    rw [cutsT]
    have s1 := same_new hp1 (.lst (((P0 n ms).take k).map V.str))
    have E1 : upd H p1 (.lst (((P0 n ms).take k).map V.str)) p1 = _ := upd_same
    have SS := s1
    refine ⟨_, rfl, _, rfl, a, _, _, _, rfl, rfl, s1.seq hS, hat, _, _, rfl, rfl, small (by show 1 + v.length ≤ 1000; omega), ?_⟩

    refine ⟨by show 1 ≤ sizeLine; decide, fun p2 hp2 => ?_⟩
    have s2 := same_new hp2 (.lst [V.str (sg 43 ++ v)])
    refine ⟨p1, p2, _, _, rfl, rfl, s2 _ _ E1, upd_same, small (by have := lt k; rw [List.length_map]; show _ + 1 ≤ 1000; omega), fun p3 hp3 => ?_⟩
    have s3 := same_new hp3 (.lst (((P0 n ms).take k).map V.str ++ [V.str (sg 43 ++ v)]))
    refine ⟨_, rfl, _, rfl, _, _, rfl, rfl, _, rfl, a, _, rfl, (SS.trans (s2.trans s3)).seq hS, fun p4 hp4 => ?_⟩
    rw [show ((k : Int) + 1) = ((k + 1 : Nat) : Int) from rfl, cutsD]
    have s4 := same_new hp4 (.lst (((P0 n ms).drop (k + 1)).map V.str))
    refine ⟨p3, p4, _, _, rfl, rfl, s4 _ _ upd_same, upd_same, small (by have := lt k; have := (rd (k + 1)).2; rw [List.length_append, List.length_map, List.length_map]; show _ + 1 + _ ≤ 1000; omega), fun p5 hp5 => ?_⟩
    have s5 := SS.trans (s2.trans (s3.trans s4))
    refine fin p5 _ k (sg 43 ++ v) ((P0 n ms).drop (k + 1)) (s5.trans (same_new hp5 _)) (s5.free hp5) (by rw [upd_same]; exact congrArg (fun z => some (HO.lst z)) (map3 _ _ _)) ((cl_sg (by decide) (by decide)).app vC) (by rw [len_app]; show 1 + v.length ≤ 170; omega) (rd _).1 (by have := (rd (k + 1)).2; omega) (fun _ => (alien (c := 43) (by rw [app_toList]; exact List.mem_append_left _ (List.mem_singleton.mpr rfl)) (by decide)).1) (fun _ => (alien (c := 43) (by rw [app_toList]; exact List.mem_append_left _ (List.mem_singleton.mpr rfl)) (by decide)).2) (fun _ _ z => z)
  have n12 : way ≠ 12 := fun z => e (by rw [z])
  clear e
  refine ⟨_, rfl, rfl, _, rfl, ifD (fun e => ?_) (fun e => ?_)⟩
  · have ew : way = 18 := V.int.inj e
    have hk' : k ≤ ms.length := by omega
    obtain ⟨v, hv, vC, vl, v0, v1⟩ := word k hk'
    have hat : atI ((P0 n ms).map V.str) (k : Int) = some (.str v) := atI_nat (by rw [List.getElem?_map, hv]; rfl)
    refine ⟨_, rfl, _, rfl, _, rfl, a, _, rfl, hS, fun p1 hp1 => ?_⟩
    rw [cutsT]
    have s1 := same_new hp1 (.lst (((P0 n ms).take k).map V.str))
    have E1 : upd H p1 (.lst (((P0 n ms).take k).map V.str)) p1 = _ := upd_same
    have SS := s1
    refine ⟨_, rfl, _, rfl, a, _, _, _, rfl, rfl, s1.seq hS, hat, _, _, rfl, rfl, small (by show v.length + 1 ≤ 1000; omega), ?_⟩

    refine ⟨by show 1 ≤ sizeLine; decide, fun p2 hp2 => ?_⟩
    have s2 := same_new hp2 (.lst [V.str (v ++ sg 9)])
    refine ⟨p1, p2, _, _, rfl, rfl, s2 _ _ E1, upd_same, small (by have := lt k; rw [List.length_map]; show _ + 1 ≤ 1000; omega), fun p3 hp3 => ?_⟩
    have s3 := same_new hp3 (.lst (((P0 n ms).take k).map V.str ++ [V.str (v ++ sg 9)]))
    refine ⟨_, rfl, _, rfl, _, _, rfl, rfl, _, rfl, a, _, rfl, (SS.trans (s2.trans s3)).seq hS, fun p4 hp4 => ?_⟩
    rw [show ((k : Int) + 1) = ((k + 1 : Nat) : Int) from rfl, cutsD]
    have s4 := same_new hp4 (.lst (((P0 n ms).drop (k + 1)).map V.str))
    refine ⟨p3, p4, _, _, rfl, rfl, s4 _ _ upd_same, upd_same, small (by have := lt k; have := (rd (k + 1)).2; rw [List.length_append, List.length_map, List.length_map]; show _ + 1 + _ ≤ 1000; omega), fun p5 hp5 => ?_⟩
    have s5 := SS.trans (s2.trans (s3.trans s4))
    refine fin p5 _ k (v ++ sg 9) ((P0 n ms).drop (k + 1)) (s5.trans (same_new hp5 _)) (s5.free hp5) (by rw [upd_same]; exact congrArg (fun z => some (HO.lst z)) (map3 _ _ _)) (vC.app (cl_sg (by decide) (by decide))) (by rw [len_app]; show v.length + 1 ≤ 170; omega) (rd _).1 (by have := (rd (k + 1)).2; omega) (fun _ => (alien (c := 9) (by rw [app_toList]; exact List.mem_append_right _ (List.mem_singleton.mpr rfl)) (by decide)).1) (fun _ => (alien (c := 9) (by rw [app_toList]; exact List.mem_append_right _ (List.mem_singleton.mpr rfl)) (by decide)).2) (fun _ _ z => z)
  have n18 : way ≠ 18 := fun z => e (by rw [z])
  clear e
  refine ⟨_, rfl, rfl, _, rfl, ifD (fun e => ?_) (fun e => ?_)⟩
  · have ew : way = 19 := V.int.inj e
    have hk' : k ≤ ms.length := by omega
    obtain ⟨v, hv, vC, vl, v0, v1⟩ := word k hk'
    have hat : atI ((P0 n ms).map V.str) (k : Int) = some (.str v) := atI_nat (by rw [List.getElem?_map, hv]; rfl)
    refine ⟨_, rfl, _, rfl, _, rfl, a, _, rfl, hS, fun p1 hp1 => ?_⟩
    rw [cutsT]
    have s1 := same_new hp1 (.lst (((P0 n ms).take k).map V.str))
    have E1 : upd H p1 (.lst (((P0 n ms).take k).map V.str)) p1 = _ := upd_same
    have SS := s1
    refine ⟨_, rfl, _, rfl, a, _, _, _, rfl, rfl, s1.seq hS, hat, _, _, rfl, rfl, small (by show v.length + 1 ≤ 1000; omega), ?_⟩

    refine ⟨by show 1 ≤ sizeLine; decide, fun p2 hp2 => ?_⟩
    have s2 := same_new hp2 (.lst [V.str (v ++ sg 10)])
    refine ⟨p1, p2, _, _, rfl, rfl, s2 _ _ E1, upd_same, small (by have := lt k; rw [List.length_map]; show _ + 1 ≤ 1000; omega), fun p3 hp3 => ?_⟩
    have s3 := same_new hp3 (.lst (((P0 n ms).take k).map V.str ++ [V.str (v ++ sg 10)]))
    refine ⟨_, rfl, _, rfl, _, _, rfl, rfl, _, rfl, a, _, rfl, (SS.trans (s2.trans s3)).seq hS, fun p4 hp4 => ?_⟩
    rw [show ((k : Int) + 1) = ((k + 1 : Nat) : Int) from rfl, cutsD]
    have s4 := same_new hp4 (.lst (((P0 n ms).drop (k + 1)).map V.str))
    refine ⟨p3, p4, _, _, rfl, rfl, s4 _ _ upd_same, upd_same, small (by have := lt k; have := (rd (k + 1)).2; rw [List.length_append, List.length_map, List.length_map]; show _ + 1 + _ ≤ 1000; omega), fun p5 hp5 => ?_⟩
    have s5 := SS.trans (s2.trans (s3.trans s4))
    refine fin p5 _ k (v ++ sg 10) ((P0 n ms).drop (k + 1)) (s5.trans (same_new hp5 _)) (s5.free hp5) (by rw [upd_same]; exact congrArg (fun z => some (HO.lst z)) (map3 _ _ _)) (vC.app (cl_sg (by decide) (by decide))) (by rw [len_app]; show v.length + 1 ≤ 170; omega) (rd _).1 (by have := (rd (k + 1)).2; omega) (fun _ => (alien (c := 10) (by rw [app_toList]; exact List.mem_append_right _ (List.mem_singleton.mpr rfl)) (by decide)).1) (fun _ => (alien (c := 10) (by rw [app_toList]; exact List.mem_append_right _ (List.mem_singleton.mpr rfl)) (by decide)).2) (fun _ _ z => z)
  have n19 : way ≠ 19 := fun z => e (by rw [z])
  clear e
  refine ⟨_, rfl, rfl, _, rfl, ifD (fun e => ?_) (fun e => ?_)⟩
  · have ew : way = 13 := V.int.inj e
    refine ⟨_, rfl, a, _, rfl, .inl hS, _, _, rfl, rfl, _, rfl, ifD (fun e2 => ?_) (fun e2 => ?_)⟩
    · have hw1 := wt_le (L := P0 n ms) (b := 3) fun x hx => (hP x hx).2
      have hj := join_wt 9 (P0 n ms)
      refine ⟨rfl, _, rfl, sg 9, a, P0 n ms, rfl, rfl, hS, by decide, by unfold wt at hw1; omega, ?_⟩
      refine ⟨by show 1 ≤ sizeLine; decide, fun p2 hp2 => ?_⟩
      have al := alien (y := Str.join (sg 9) (P0 n ms)) (c := 9) (by
        obtain ⟨m, ms', rfl⟩ : ∃ m ms', ms = m :: ms' := by
          cases ms with
          | nil => rw [hPm] at e2; simp at e2
          | cons m r => exact ⟨m, r, rfl⟩
        show 9 ∈ (Str.join (sg 9) ((numT n ++ sg 58) :: numT m :: ms'.map numT)).cps.toList
        rw [join_toList2]; simp) (by decide)
      refine fin p2 _ 0 (Str.join (sg 9) (P0 n ms)) [] (same_new hp2 _) hp2 (by rw [upd_same]; rfl) (cl_join9 fun x hx => (hP x hx).1) (by omega) (fun _ z => nomatch z) (by decide) (fun _ => al.1) (fun _ => al.2) (fun z1 z2 _ => by omega)
    · refine ⟨_, rfl, a, _, _, _, rfl, rfl, hS, atI_nat (j := 0) rfl, _, _, rfl, rfl, small (by have := (hP _ List.mem_cons_self).2; show (numT n ++ sg 58).length + 1 ≤ 1000; omega), ?_⟩
      refine ⟨by show 1 ≤ sizeLine; decide, fun p2 hp2 => ?_⟩
      have al := alien (y := (numT n ++ sg 58) ++ sg 9) (c := 9) (by rw [app_toList]; exact List.mem_append_right _ (List.mem_singleton.mpr rfl)) (by decide)
      refine fin p2 _ 0 ((numT n ++ sg 58) ++ sg 9) [] (same_new hp2 _) hp2 (by rw [upd_same]; rfl) ((cl_hd hn).app (cl_sg (by decide) (by decide))) (by rw [len_app]; have := (hP _ List.mem_cons_self).2; show (numT n ++ sg 58).length + 1 ≤ 170; omega) (fun _ z => nomatch z) (by decide) (fun _ => al.1) (fun _ => al.2) (fun z1 z2 _ => by omega)
  have n13 : way ≠ 13 := fun z => e (by rw [z])
  clear e
  have hk' : k ≤ ms.length := by omega
  obtain ⟨v, hv, vC, vl, v0, v1⟩ := word ms.length (Nat.le_refl _)
  have hx : (P0 n ms).map V.str = ((P0 n ms).take ms.length).map V.str ++ [V.str v] := by
    have e1 : P0 n ms = (P0 n ms).take ms.length ++ [v] := by
      have e := List.take_add_one (l := P0 n ms) (i := ms.length)
      rw [List.take_of_length_le (by omega), hv] at e
      exact e
    conv => lhs; rw [e1]
    rw [List.map_append]; rfl
  have hat : atI ((P0 n ms).map V.str) (-1) = some (.str v) := by rw [hx]; exact atI_last _ _
  refine ⟨_, rfl, _, rfl, _, rfl, a, _, rfl, hS, fun p1 hp1 => ?_⟩
  rw [show (-1 : Int) = -1 from rfl, cutsN, hPl, Nat.add_sub_cancel]
  have s1 := same_new hp1 (.lst (((P0 n ms).take ms.length).map V.str))
  refine ⟨_, rfl, _, rfl, a, _, _, _, rfl, rfl, s1.seq hS, hat, _, _, rfl, rfl, small (by show v.length + 1 ≤ 1000; omega), ?_⟩
  refine ⟨by show 1 ≤ sizeLine; decide, fun p2 hp2 => ?_⟩
  have s2 := same_new hp2 (.lst [V.str (v ++ sg 44)])
  refine ⟨p1, p2, _, _, rfl, rfl, s2 _ _ upd_same, upd_same, small (by have := lt ms.length; rw [List.length_map]; show _ + 1 ≤ 1000; omega), fun p5 hp5 => ?_⟩
  have s5 := s1.trans s2
  refine fin p5 _ ms.length (v ++ sg 44) [] (s5.trans (same_new hp5 _)) (s5.free hp5) (by rw [upd_same, List.map_append]; rfl) (vC.app (cl_sg (by decide) (by decide))) (by rw [len_app]; show v.length + 1 ≤ 170; omega) (fun _ z => nomatch z) (by decide) (fun _ => (alien (c := 44) (by rw [app_toList]; exact List.mem_append_right _ (List.mem_singleton.mpr rfl)) (by decide)).1) (fun _ => (alien (c := 44) (by rw [app_toList]; exact List.mem_append_right _ (List.mem_singleton.mpr rfl)) (by decide)).2) (fun z1 z2 _ => by omega)

abbrev s_law : Stmt := top 23
theorem sc_law : FnScope ["script", "long", "wishes", "parts", "bad_long", "way", "at", "due"] ["script"] (defScope s_law) := ⟨rfl, rfl, rfl, by decide +kernel, rfl, by decide +kernel, by decide +kernel⟩
theorem sc_law.c0 : CompSc ["script", "long", "wishes", "parts", "bad_long", "way", "at", "due"] (defScope s_law) ["wish"] 1 [] { kind := .function, names := [(PySem.Str.ofString ".0", PySem.NameKind.local), (PySem.Str.ofString "wish", PySem.NameKind.local), (PySem.Str.ofString "str", PySem.NameKind.globalImplicit)], isGenerator := false, isCoroutine := false, more := [] } := ⟨rfl, by decide +kernel, by decide +kernel, by decide +kernel, by decide, rfl, by decide +kernel⟩
theorem sc_law.nd0 : (["wish"] : List Str).Nodup := by decide +kernel
theorem sc_law.c1 : CompSc ["script", "long", "wishes", "parts", "bad_long", "way", "at", "due"] (defScope s_law) ["k"] 1 [] { kind := .function, names := [(PySem.Str.ofString ".0", PySem.NameKind.local), (PySem.Str.ofString "k", PySem.NameKind.local)], isGenerator := false, isCoroutine := false, more := [] } := ⟨rfl, by decide +kernel, by decide +kernel, by decide +kernel, by decide, rfl, by decide +kernel⟩
theorem sc_law.nd1 : (["k"] : List Str).Nodup := by decide +kernel
--mid=1,6,7
theorem lg_nat {n : Nat} (h : n < 100) : ((n : Nat) : Int).natAbs.log2 < 1920 := log_small n h
theorem ixn {N j : Nat} (h : j < N) : ixN N (j : Int) = some j := by
  unfold ixN
  rw [if_pos (by omega), if_pos (by omega), Int.toNat_natCast]
theorem set0 (L : List Str) (x : Str) : (L.map V.str).set 0 (V.str x) = (L.set 0 x).map V.str := by cases L <;> rfl
theorem setS (L : List Str) (j : Nat) (x : Str) : (L.map V.str).set j (V.str x) = (L.set j x).map V.str := by rw [List.map_set]
theorem bad_pick {c d : Int} (h1 : 0 ≤ c) (h2 : c < 59) (h3 : 0 ≤ d) (h4 : d < 2) : ∃ z : Nat, atI [V.int 0, .int (41 + c)] d = some (.int (z : Int)) ∧ z < 100 ∧ (z < 1 ∨ 40 < z) := by
  have : d = 0 ∨ d = 1 := by omega
  rcases this with rfl | rfl
  · exact ⟨0, rfl, by omega, by omega⟩
  · refine ⟨(41 + c).toNat, ?_, by omega, by omega⟩
    rw [show ((41 + c).toNat : Int) = 41 + c by omega]; rfl
theorem p0_wt {n : Nat} {ms : List Nat} (hn : n < 100) (hm : ∀ m ∈ ms, m < 100) : wt (P0 n ms) ≤ 4 * (ms.length + 1) := by
  have := wt_le (L := P0 n ms) (b := 3) fun x hx => (p0_cl hn hm x hx).2
  rw [p0_len] at this; omega
def Fit (Lp : List Str) (d : Str) : Prop := (∀ x ∈ Lp, Cl x) ∧ wt Lp ≤ 850 ∧ ((d = "note" ∧ BadN (Str.join (sg 32) Lp)) ∨ ∃ (n : Nat) (ms : List Nat), Lp = P0 n ms ∧ n < 100 ∧ (∀ m ∈ ms, m < 100) ∧
  ((d = "quay" ∧ (n < 1 ∨ 40 < n)) ∨ (d = "row" ∧ 1 ≤ n ∧ n ≤ 40 ∧ (n < ms.length ∨ ∃ m ∈ ms, n ≤ m)) ∨ (d = "done" ∧ 1 ≤ n ∧ n ≤ 40 ∧ ms.length ≤ n ∧ ∀ m ∈ ms, m < n)))
theorem fit_p0 {n : Nat} {ms : List Nat} {d : Str} (hn : n < 100) (hm : ∀ m ∈ ms, m < 100) (hl : ms.length ≤ 200)
    (h : (d = "quay" ∧ (n < 1 ∨ 40 < n)) ∨ (d = "row" ∧ 1 ≤ n ∧ n ≤ 40 ∧ (n < ms.length ∨ ∃ m ∈ ms, n ≤ m)) ∨ (d = "done" ∧ 1 ≤ n ∧ n ≤ 40 ∧ ms.length ≤ n ∧ ∀ m ∈ ms, m < n)) : Fit (P0 n ms) d :=
  ⟨fun x hx => (p0_cl hn hm x hx).1, by have := p0_wt hn hm; omega, .inr ⟨n, ms, rfl, hn, hm, h⟩⟩
theorem intL_nat {ws : List Int} (h : ∀ w ∈ ws, 0 ≤ w) : ∃ ms : List Nat, ws = intL ms := by
  refine ⟨ws.map Int.toNat, ?_⟩
  unfold intL
  rw [List.map_map]
  conv => lhs; rw [← List.map_id ws]
  apply List.map_congr_left
  intro w hw
  have := h w hw
  show w = ((w.toNat : Nat) : Int)
  omega
theorem p0_set (n : Nat) (ms : List Nat) (i v : Nat) : ((P0 n ms).map V.str).set (i + 1) (V.str (numT v)) = (P0 n (ms.set i v)).map V.str := by
  unfold P0
  rw [List.map_cons, List.set_cons_succ, List.map_cons, List.map_set, List.map_set]
theorem p0_more (n : Nat) (ms : List Nat) (c : Nat) : (P0 n ms).map V.str ++ (List.replicate c (numT 0)).map V.str = (P0 n (ms ++ List.replicate c 0)).map V.str := by
  unfold P0
  simp
theorem zeros (N : Nat) : ((irng 0 N).filter (fun _ => true)).map (fun _ => V.str (numT 0)) = (List.replicate N (numT 0)).map V.str := by
  rw [List.filter_eq_self.mpr (fun _ _ => rfl), List.map_replicate]
  rw [List.map_const', irng_length]
def strV : V → V
  | .int i => .str (toString i)
  | v => v
theorem ok_law (F : Fun K "law" "law" s_law f fd) (B : Blt mg) (D_law_cell_at : Def P w K mg base 1 "_law_cell_at" ["script", "k"] (spCell K)) (D_law_quay_by : Def P w K mg base 2 "_law_quay_by" ["script"] (spQuayBy K)) (D_law_tried : Def P w K mg base 4 "_law_tried" ["text"] (spTried K)) (D_law_spoilt : Def P w K mg base 1 "_law_spoilt" ["parts", "way", "at"] (spSpoilt K)) :
    FnOk P w K mg base CX0 5 f fd ["script"] (spLaw K) := by
  refine F.ok sc_law (fun vs H Q E h => ?_) (fun cdv A outer s H vs Q E hr h => ?_)
  · obtain ⟨a, ns, rfl, _⟩ := h; rfl
  obtain ⟨a, ns, rfl, hS, h63, q⟩ := h
  refine ⟨_, (pss_cons (ps_asg (pe_def D_law_quay_by (hr.mono (by decide)) (by rfl) (pa_cons (pv 0) pa_nil)) (pg_tup rfl (pgs_cons (pg_name (i := 1) sc_law.nd rfl (Or.inl rfl)) (pgs_cons (pg_name (i := 2) sc_law.nd rfl (Or.inl rfl)) pgs_nil))))
      (pss_mid (ps_set (i := 3) sc_law.nd rfl (Or.inl rfl) (pe_op op_cat (pe_lst (pa_cons (pe_op op_add_str (pe_callTy call_str_int (by rfl) B.str (by decide +kernel) (pa_cons (pv 1) pa_nil)) pe_str) pa_nil)) (pe_comp sc_law.c0 rfl (pi_list (pv 2)) (fun _ _ _ _ => (pg_name (i := 0) sc_law.nd0 rfl (Or.inl rfl))) (fun _ _ _ _ => pifs_nil) (fun _ _ _ _ => (pe_callTy call_str_int (by rfl) B.str (by decide +kernel) (pa_cons (pv 0) pa_nil))))))
      (pss_cons (ps_set (i := 4) sc_law.nd rfl (Or.inl rfl) (pe_ix ix_list (pe_lst (pa_cons pe_int (pa_cons (pe_op op_add pe_int (pe_op op_mod (pe_def D_law_cell_at (hr.mono (by decide)) (by rfl) (pa_cons (pv 0) (pa_cons pe_int pa_nil))) pe_int)) pa_nil))) (pe_op op_mod (pe_def D_law_cell_at (hr.mono (by decide)) (by rfl) (pa_cons (pv 0) (pa_cons pe_int pa_nil))) pe_int) (fun _ _ => rfl)))
      (pss_cons (ps_set (i := 5) sc_law.nd rfl (Or.inl rfl) (pe_op op_mod (pe_def D_law_cell_at (hr.mono (by decide)) (by rfl) (pa_cons (pv 0) (pa_cons pe_int pa_nil))) pe_int))
      (pss_cons (ps_set (i := 6) sc_law.nd rfl (Or.inl rfl) (pe_op op_mod (pe_def D_law_cell_at (hr.mono (by decide)) (by rfl) (pa_cons (pv 0) (pa_cons pe_int pa_nil))) (pe_callB call_len_seq (by rfl) B.len PySem.boot_len (pa_cons (pv 3) pa_nil))))
      (pss_cons (ps_set (i := 7) sc_law.nd rfl (Or.inl rfl) pe_str)
      (pss_mid (ps_if (pt_cmpR op_eq (pv 5) pe_int (nomark _)) (pss_one (ps_set (i := 6) sc_law.nd rfl (Or.inl rfl) (pe_op op_mod (pe_def D_law_cell_at (hr.mono (by decide)) (by rfl) (pa_cons (pv 0) (pa_cons pe_int pa_nil))) (pe_op op_add (pe_callB call_len_seq (by rfl) B.len PySem.boot_len (pa_cons (pv 3) pa_nil)) pe_int)))) pss_nil)
      (pss_mid (ps_if ((pw_or (pt_cmpR op_lt (pv 5) pe_int (nomark _)) (pw_or1 (pt_cmpR op_gt (pv 5) pe_int (nomark _))))).pt (pss_cons (ps_set (i := 3) sc_law.nd rfl (Or.inl rfl) (pe_def D_law_spoilt (hr.mono (by decide)) (by rfl) (pa_cons (pv 3) (pa_cons (pv 5) (pa_cons (pv 6) pa_nil)))))
      (pss_one (ps_if ((pw_and (pt_cmpR op_gt (pv 5) pe_int (nomark _)) (pw_and (pt_cmpR op_lt (pv 5) pe_int (nomark _)) (pw_and (pt_cmpR op_gt (pv 6) pe_int (nomark _)) (pw_and1 (pt_cmpR op_eq (pe_op op_mod (pe_op op_fdiv (pe_def D_law_cell_at (hr.mono (by decide)) (by rfl) (pa_cons (pv 0) (pa_cons pe_int pa_nil))) pe_int) pe_int) pe_int (nomark _))))))).pt (pss_one (ps_asg (pe_op op_add_str (pe_callTy call_str_int (by rfl) B.str (by decide +kernel) (pa_cons (pv 4) pa_nil)) pe_str) (pg_sub (pv 3) pe_int set_list))) pss_nil))) (pss_one (ps_if (pt_cmpR op_eq (pv 5) pe_int (nomark _)) (pss_cons (ps_asg (pe_op op_add_str (pe_callTy call_str_int (by rfl) B.str (by decide +kernel) (pa_cons (pv 4) pa_nil)) pe_str) (pg_sub (pv 3) pe_int set_list))
      (pss_one (ps_set (i := 7) sc_law.nd rfl (Or.inl rfl) pe_str))) (pss_one (ps_if ((pw_and (pt_cmpR op_eq (pv 5) pe_int (nomark _)) (pw_and1 (pt_cmpR op_gt (pe_callB call_len_seq (by rfl) B.len PySem.boot_len (pa_cons (pv 2) pa_nil)) pe_int (nomark _))))).pt (pss_cons (ps_asg (pe_callTy call_str_int (by rfl) B.str (by decide +kernel) (pa_cons (pe_op op_add (pv 1) (pe_op op_mod (pe_def D_law_cell_at (hr.mono (by decide)) (by rfl) (pa_cons (pv 0) (pa_cons pe_int pa_nil))) (pe_op op_sub pe_int (pv 1)))) pa_nil)) (pg_sub (pv 3) (pe_op op_add pe_int (pe_op op_mod (pe_def D_law_cell_at (hr.mono (by decide)) (by rfl) (pa_cons (pv 0) (pa_cons pe_int pa_nil))) (pe_callB call_len_seq (by rfl) B.len PySem.boot_len (pa_cons (pv 2) pa_nil)))) set_list))
      (pss_one (ps_set (i := 7) sc_law.nd rfl (Or.inl rfl) pe_str))) (pss_one (ps_if (pt_cmpR op_eq (pv 5) pe_int (nomark _)) (pss_cons (ps_set (i := 3) sc_law.nd rfl (Or.inl rfl) (pe_op op_cat (pv 3) (pe_comp sc_law.c1 rfl (pi_range1 (by rfl) B.range (pa_cons (pe_op op_sub (pe_op op_add (pv 1) pe_int) (pe_callB call_len_seq (by rfl) B.len PySem.boot_len (pa_cons (pv 2) pa_nil))) pa_nil)) (fun _ _ _ _ => (pg_name (i := 0) sc_law.nd1 rfl (Or.inl rfl))) (fun _ _ _ _ => pifs_nil) (fun _ _ _ _ => pe_str))))
      (pss_one (ps_set (i := 7) sc_law.nd rfl (Or.inl rfl) pe_str))) (pss_one (ps_set (i := 7) sc_law.nd rfl (Or.inl rfl) pe_str)))))))))
      (pss_one (ps_ret (pe_cmpR op_eq (pe_def D_law_tried (hr.mono (by decide)) (by rfl) (pa_cons (pe_bm PySem.F.plainAttrs_str PySem.F.slot_str_join PySem.F.type_str_join mt_join pe_str (pa_cons (pv 3) pa_nil)) pa_nil)) (pv 7) (nomark _)))))))))))), ?_⟩
  refine ⟨_, rfl, a, ns, rfl, hS, fun t l L ws H1 ft fl s1 et el h1 h2 h3 hb => ?_⟩
  refine ⟨t, _, rfl, SqT.of et, rfl, _, _, rfl, _, _, rfl, rfl, ?_⟩
  obtain ⟨n, rfl⟩ : ∃ n : Nat, L = n := ⟨L.toNat, by omega⟩
  obtain ⟨ms, rfl⟩ := intL_nat (ws := ws) fun w hw => (hb w hw).1
  rw [intL_len] at h3
  have hm : ∀ m ∈ ms, m < n := fun m hmm => by
    have := hb (m : Int) (List.mem_map.mpr ⟨m, hmm, rfl⟩)
    omega
  have hn : n < 100 := by omega
  have hm' : ∀ m ∈ ms, m < 100 := fun m hmm => by have := hm m hmm; omega
  have nl := fg_len n hn
  have nt := numT_text n hn
  -- parts
  refine ⟨fun σ H4 => ∃ lp, σ = [some (.ref a), some (.int (n : Int)), some (.ref l), some (.ref lp), none, none, none, none] ∧ Same H H4 ∧ H4 lp = some (.lst ((P0 n ms).map V.str)) ∧ H4 l = some (.lst ((intL ms).map V.int)), ?_, ?_⟩
  · refine ⟨_, rfl, (n : Int), rfl, lg_nat hn, _, _, rfl, rfl, by rw [nt]; show (numT n).length + 1 ≤ sizeLine; exact small (by omega), by show 1 ≤ sizeLine; decide, fun p1 hp1 => ?_⟩
    rw [nt]
    have s2 := same_new hp1 (.lst [V.str (numT n ++ sg 58)])
    have el2 := s2 _ _ el
    refine ⟨_, rfl, l, rfl, ⟨_, SqL.of el2⟩, fun pc hpc => ?_⟩
    refine comp_list (K := K) (xs := (intL ms).map V.int) (rest := []) (fun _ => true) strV (by rw [List.length_map, intL_len]; omega) (SqL.of el2) hpc ⟨none, rfl⟩ ?_ ?_ ?_
    · intro x ys R hx hR; exact hR
    · intro x ys R hx _ hR
      obtain ⟨i, hi, rfl⟩ := List.mem_map.mp hx
      obtain ⟨m, hmm, rfl⟩ := List.mem_map.mp hi
      exact ⟨_, rfl, (m : Int), rfl, lg_nat (hm' m hmm), hR⟩
    have ew : (((intL ms).map V.int).filter (fun _ => true)).map strV = (ms.map numT).map V.str := by
      rw [List.filter_eq_self.mpr (fun _ _ => rfl)]
      unfold intL
      rw [List.map_map, List.map_map, List.map_map]
      apply List.map_congr_left
      intro m hmm
      show V.str (Str.ofString (toString ((m : Nat) : Int))) = V.str (numT m)
      rw [numT_text m (hm' m hmm)]
    rw [ew]
    have s3 := same_new hpc (.lst ((ms.map numT).map V.str))
    refine ⟨p1, pc, _, _, rfl, rfl, s3 _ _ upd_same, upd_same, small (by rw [List.length_map, List.length_map]; show 1 + _ ≤ 1000; omega), fun lp hlp => ?_⟩
    have s4 := same_new hlp (.lst ((P0 n ms).map V.str))
    exact ⟨lp, rfl, s1.trans (s2.trans (s3.trans s4)), upd_same, (s3.trans s4) _ _ el2⟩
  rintro σ H4 ⟨lp, rfl, s14, elp, el4⟩
  -- bad_long, way, at
  have c54 := em (cellAt ns 54) 59 (by decide)
  have c55 := em (cellAt ns 55) 2 (by decide)
  have c53 := em (cellAt ns 53) 20 (by decide)
  obtain ⟨bz, hbz, bz1, bz2⟩ := bad_pick c54.1 c54.2 c55.1 c55.2
  obtain ⟨way, ew⟩ : ∃ way, cellAt ns 53 % 20 = way := ⟨_, rfl⟩
  have hPm : ((P0 n ms).map V.str).length = ms.length + 1 := by rw [List.length_map, p0_len]
  have lenI : (((P0 n ms).map V.str).length : Int) = (ms.length : Int) + 1 := by rw [hPm]; rfl
  refine ⟨_, rfl, a, ns, 54, rfl, s14.seq hS, by omega, _, _, rfl, rfl, (by show (0 : Int) < 59; decide), _, _, rfl, rfl, by show 2 ≤ sizeLine; decide, fun p2 hp2 => ?_⟩
  have s5 := s14.trans (same_new hp2 (.lst [V.int 0, .int (41 + cellAt ns 54 % 59)]))
  have elp5 := same_new hp2 (.lst [V.int 0, .int (41 + cellAt ns 54 % 59)]) _ _ elp
  have el5 := same_new hp2 (.lst [V.int 0, .int (41 + cellAt ns 54 % 59)]) _ _ el4
  refine ⟨_, rfl, a, ns, 55, rfl, s5.seq hS, by omega, _, _, rfl, rfl, (by show (0 : Int) < 2; decide), p2, _, _, _, rfl, rfl, SqL.of upd_same, hbz, ?_⟩
  refine ⟨_, rfl, a, ns, 53, rfl, s5.seq hS, by omega, _, _, rfl, rfl, (by show (0 : Int) < 20; decide), ?_⟩
  rw [ew] at c53
  dsimp only
  rw [ew]
  have c56 := em (cellAt ns 56) ((ms.length : Int) + 1) (by omega)
  obtain ⟨k0, hk0⟩ : ∃ k0 : Nat, cellAt ns 56 % ((ms.length : Int) + 1) = k0 := ⟨(cellAt ns 56 % ((ms.length : Int) + 1)).toNat, by omega⟩
  refine ⟨_, rfl, a, ns, 56, rfl, s5.seq hS, by omega, _, rfl, lp, _, rfl, .inl (SqL.of elp5), _, _, rfl, rfl, (by rw [lenI]; omega), ?_⟩
  dsimp only
  rw [lenI, hk0]
  refine ⟨fun σ H6 => ∃ k : Nat, σ = [some (.ref a), some (.int (n : Int)), some (.ref l), some (.ref lp), some (.int (bz : Int)), some (.int way), some (.int (k : Int)), some (.str "note")] ∧ (k ≤ ms.length ∨ (way = 1 ∧ k = ms.length + 1)) ∧ Same H H6 ∧ H6 lp = some (.lst ((P0 n ms).map V.str)) ∧ H6 l = some (.lst ((intL ms).map V.int)), ?_, ?_⟩
  · refine ⟨_, rfl, rfl, _, rfl, ifD (fun e => ?_) (fun e => ⟨k0, rfl, .inl (by omega), s5, elp5, el5⟩)⟩
    have ew1 : way = 1 := V.int.inj e
    have c57 := em (cellAt ns 57) ((ms.length : Int) + 1 + 1) (by omega)
    obtain ⟨k1, hk1⟩ : ∃ k1 : Nat, cellAt ns 57 % ((ms.length : Int) + 1 + 1) = k1 := ⟨(cellAt ns 57 % ((ms.length : Int) + 1 + 1)).toNat, by omega⟩
    refine ⟨_, rfl, a, ns, 57, rfl, s5.seq hS, by omega, _, rfl, lp, _, rfl, .inl (SqL.of elp5), _, _, rfl, rfl, _, _, rfl, rfl, (by rw [lenI]; omega), ?_⟩
    dsimp only
    rw [lenI, hk1]
    exact ⟨k1, rfl, by omega, s5, elp5, el5⟩
  rintro σ H6 ⟨k, rfl, hk, s6, elp6, el6⟩
  have hS6 := s6.seq hS
  refine ⟨fun σ H7 => ∃ (lp' : Addr) (Lp : List Str) (d : Str) (v6 : Option V), σ = [some (.ref a), some (.int (n : Int)), some (.ref l), some (.ref lp'), some (.int (bz : Int)), some (.int way), v6, some (.str d)] ∧ H7 lp' = some (.lst (Lp.map V.str)) ∧ Fit Lp d, ?_, ?_⟩
  rotate_left
  · rintro σ H7 ⟨lp', Lp, d, v6, rfl, e7, hc7, hw7, h7⟩
    have hjl := join_wt 32 Lp
    have hja := join_asc (c := 32) (by decide) hc7
    refine ⟨rfl, _, rfl, sg 32, lp', Lp, rfl, rfl, SqL.of e7, by decide, by unfold wt at hw7; omega, ?_⟩
    have fin : ∀ H8, Q (.bl (decide (V.str d = V.str d))) H8 := fun H8 => by rw [decide_eq_true rfl]; exact q _
    refine ⟨_, rfl, by omega, hja, ?_⟩
    rcases h7 with ⟨rfl, hbad⟩ | ⟨n', ms', rfl, hn', hms', ⟨rfl, hq⟩ | ⟨rfl, g1, g2, g3⟩ | ⟨rfl, g1, g2, g3, g4⟩⟩
    · exact .inl ⟨hbad, fun H8 s8 => ⟨_, rfl, rfl, fin H8⟩⟩
    · exact .inr ⟨n', ms', rfl, hn', hms', .inl ⟨hq, fun H8 s8 => ⟨_, rfl, rfl, fin H8⟩⟩⟩
    · exact .inr ⟨n', ms', rfl, hn', hms', .inr (.inl ⟨g1, g2, g3, fun H8 s8 => ⟨_, rfl, rfl, fin H8⟩⟩)⟩
    · exact .inr ⟨n', ms', rfl, hn', hms', .inr (.inr ⟨g1, g2, g3, g4, fun H8 s8 => ⟨_, rfl, rfl, fin H8⟩⟩)⟩
  have bt := numT_text bz bz1
  have bl := fg_len bz bz1
  refine ⟨_, rfl, _, _, rfl, rfl, _, rfl, ifD (fun c => ?_) (fun c1 => ⟨_, rfl, _, _, rfl, rfl, _, rfl, ifD (fun c => ?_) (fun c => ?_)⟩)⟩
  rotate_left 2
  · refine ⟨_, rfl, rfl, _, rfl, ifD (fun e => ?_) (fun e => ?_)⟩
    · -- 14: a quay that is none
      refine ⟨_, rfl, (bz : Int), rfl, lg_nat bz1, _, _, rfl, rfl, by rw [bt]; show (numT bz).length + 1 ≤ sizeLine; exact small (by omega), _, rfl, lp, _, 0, 0, rfl, rfl, elp6, ixn (j := 0) (by rw [hPm]; omega), ?_⟩
      rw [bt]
      exact ⟨lp, P0 bz ms, "quay", _, rfl, upd_same, fit_p0 bz1 hm' (by omega) (.inl ⟨rfl, bz2⟩)⟩
    have n14 : way ≠ 14 := fun z => e (by rw [z])
    clear e
    refine ⟨_, rfl, rfl, _, rfl, ifD (fun e => ⟨_, rfl, l, _, rfl, .inl (SqL.of el6), _, _, rfl, rfl, _, rfl, ifD (fun c2 => ?_) (fun c2 => ?_)⟩) (fun e => ?_)⟩
    · -- 15: a wish that is no place
      have lenW : (((intL ms).map V.int).length : Int) = (ms.length : Int) := by rw [List.length_map, intL_len]
      rw [lenW] at c2
      have d54 := em (cellAt ns 54) (100 - (n : Int)) (by omega)
      have d56 := em (cellAt ns 56) (ms.length : Int) (by omega)
      obtain ⟨v, hv⟩ : ∃ v : Nat, (n : Int) + cellAt ns 54 % (100 - (n : Int)) = v := ⟨((n : Int) + cellAt ns 54 % (100 - (n : Int))).toNat, by omega⟩
      obtain ⟨i, hi⟩ : ∃ i : Nat, (1 : Int) + cellAt ns 56 % (ms.length : Int) = ((i + 1 : Nat) : Int) := ⟨(cellAt ns 56 % (ms.length : Int)).toNat, by omega⟩
      have hv1 : v < 100 := by omega
      have hi1 : i < ms.length := by omega
      refine ⟨_, rfl, _, rfl, a, ns, 54, rfl, hS6, by omega, _, rfl, _, _, rfl, rfl, _, _, rfl, rfl, (by show (0 : Int) < 100 - (n : Int); omega), _, _, rfl, rfl, _, rfl, by rw [hv]; exact lg_nat hv1, ?_⟩
      refine ⟨_, rfl, _, rfl, a, ns, 56, rfl, hS6, by omega, _, rfl, l, _, rfl, .inl (SqL.of el6), _, _, rfl, rfl, (by rw [lenW]; omega), _, _, rfl, rfl, lp, _, _, i + 1, rfl, rfl, elp6, by rw [lenW, hi]; exact ixn (by rw [hPm]; omega), ?_⟩
      rw [hv, numT_text v hv1]
      refine ⟨lp, P0 n (ms.set i v), "row", _, rfl, by rw [upd_same]; exact congrArg (fun z => some (HO.lst z)) (p0_set n ms i v), fit_p0 hn (fun m hmm => ?_) (by rw [List.length_set]; omega) (.inr (.inl ⟨rfl, by omega, by omega, .inr ⟨v, ?_, by omega⟩⟩))⟩
      · rcases List.mem_or_eq_of_mem_set hmm with hx | rfl
        · exact hm' m hx
        · exact hv1
      · exact List.mem_iff_getElem?.mpr ⟨i, by rw [List.getElem?_set_self hi1]⟩
    all_goals
      refine ⟨_, rfl, rfl, _, rfl, ifD (fun e16 => ?_) (fun e16 => ?_)⟩
      · have lenW : (((intL ms).map V.int).length : Int) = (ms.length : Int) := by rw [List.length_map, intL_len]
        refine ⟨_, rfl, _, rfl, _, _, rfl, rfl, _, rfl, l, _, rfl, .inl (SqL.of el6), _, _, rfl, rfl, _, rfl, by rw [lenW]; omega, by rw [lenW]; omega, fun p hp => ?_⟩
        rw [lenW, show ((n : Int) + 1 - (ms.length : Int)).toNat = n + 1 - ms.length by omega]
        refine comp_range (rest := []) (fun _ => true) (fun _ => V.str (numT 0)) ?_ ?_ ?_ ?_ ?_
        · omega
        · exact ⟨none, rfl⟩
        · intro x ys R _ _ hR; exact hR
        · intro x ys R _ _ _ hR; exact hR
        rw [zeros]
        have s7 := same_new hp (.lst ((List.replicate (n + 1 - ms.length) (numT 0)).map V.str))
        refine ⟨lp, p, _, _, rfl, rfl, s7 _ _ elp6, upd_same, small (by rw [hPm, List.length_map, List.length_replicate]; omega), fun lq hlq => ?_⟩
        refine ⟨lq, P0 n (ms ++ List.replicate (n + 1 - ms.length) 0), "row", _, rfl, by rw [upd_same]; exact congrArg (fun z => some (HO.lst z)) (p0_more n ms _), fit_p0 hn (fun m hmm => ?_) (by rw [List.length_append, List.length_replicate]; omega) (.inr (.inl ⟨rfl, by omega, by omega, .inl (by rw [List.length_append, List.length_replicate]; omega)⟩))⟩
        rcases List.mem_append.mp hmm with hx | hx
        · exact hm' m hx
        · rw [List.eq_of_mem_replicate hx]; omega
      · exact ⟨lp, P0 n ms, "done", _, rfl, elp6, fit_p0 hn hm' (by omega) (.inr (.inr ⟨rfl, by omega, by omega, by omega, hm⟩))⟩
  all_goals
    have hA : way < 14 ∨ 17 < way := by omega
    refine ⟨_, rfl, _, rfl, _, rfl, lp, way, k, n, ms, rfl, SqL.of elp6, hn, hm', by omega, hk, fun l2 H2 L2 j y s2 fl2 el2 hj g0 g1 hcl hwt hw => ?_⟩
    have done : Fit L2 "note" := ⟨hcl, by omega, .inl ⟨rfl, badL hj g0 g1 hcl⟩⟩
    refine ⟨_, rfl, _, _, rfl, rfl, _, rfl, ifD (fun c1 => ⟨_, rfl, _, _, rfl, rfl, _, rfl, ifD (fun c2 => ⟨_, rfl, _, _, rfl, rfl, _, rfl, ifD (fun c3 => ⟨_, rfl, a, ns, 55, rfl, s2.seq hS6, by omega, _, _, rfl, rfl, ⟨by decide, by decide⟩, _, _, rfl, rfl, (by show (0 : Int) < 2; decide), rfl, _, rfl, ifD (fun c4 => ?_) (fun c4 => ?_)⟩) (fun c3 => ?_)⟩) (fun c2 => ?_)⟩) (fun c1 => ?_)⟩
    rotate_left
    · exact ⟨l2, L2, "note", _, rfl, el2, done⟩
    · exact ⟨l2, L2, "note", _, rfl, el2, done⟩
    · exact ⟨l2, L2, "note", _, rfl, el2, done⟩
    · exact ⟨l2, L2, "note", _, rfl, el2, done⟩
    have hj0 := hw (by omega) (by omega) (by omega)
    have hlen : 0 < L2.length := by have := (List.getElem?_eq_some_iff.mp hj).1; omega
    refine ⟨_, rfl, (bz : Int), rfl, lg_nat bz1, _, _, rfl, rfl, by rw [bt]; show (numT bz).length + 1 ≤ sizeLine; exact small (by omega), _, rfl, l2, _, 0, 0, rfl, rfl, el2, ixn (j := 0) (by rw [List.length_map]; exact hlen), ?_⟩
    rw [bt]
    have hcs : ∀ x ∈ L2.set 0 (numT bz ++ sg 58), Cl x := fun x hx => by
      rcases List.mem_or_eq_of_mem_set hx with hx | rfl
      · exact hcl x hx
      · exact cl_hd bz1
    have hws := wt_set L2 (numT bz ++ sg 58)
    have hbl : (numT bz ++ sg 58).length ≤ 3 := (p0_cl (ms := []) bz1 (fun _ z => nomatch z) _ List.mem_cons_self).2
    exact ⟨l2, L2.set 0 (numT bz ++ sg 58), "note", _, rfl, by rw [upd_same]; exact congrArg (fun z => some (HO.lst z)) (set0 L2 (numT bz ++ sg 58)), hcs, by omega, .inl ⟨rfl, badL (j := j) (y := y) (by rw [List.getElem?_set_ne (by omega)]; exact hj) g0 g1 hcs⟩⟩

end
theorem all_mk {l : PySem.W.OpenLaw} {w : World} {K : PySem.W.Frag} {h : Heap} {mg : Str → Option Value} {fa f : Addr} {od an : Option Addr} {sl : Array (Option Value)} {oc kV dc pm cd ct : Value} {M C0 C1 C2 C3 C4 C5 : Addr} (X : K.In h) (G : h.Ns mainGlobals mg) (hfa : mg "law" = some (.ref fa))
    (a : PySem.W.nsIn K mainGlobals "law" = some (some (.ref f))) (l1 : K.lookup f = some ⟨oc, od, .func (PySem.W.fnOf "law" "law" (defArgs s_law) (defBody s_law) (defScope s_law) .none kV dc pm an cd ct), sl⟩) (c : PySem.W.codeIn K cd "law" = true) (k : PySem.W.keepIn K (.ref f) = true)
    (B : Blt mg) (R : Errs K mg M C0 C1 C2 C3 C4 C5) (S_check_wishes : Src K mg "check_wishes" s_check_wishes ["wishes", "places"]) (S_check_row : Src K mg "check_row" s_check_row ["long", "wishes"]) (S_number_of : Src K mg "number_of" s_number_of ["word"]) (S_read : Src K mg "read" s_read ["text"]) (S_law_cell_at : Src K mg "_law_cell_at" s_law_cell_at ["script", "k"]) (S_law_quay_by : Src K mg "_law_quay_by" s_law_quay_by ["script"]) (S_law_word_of : Src K mg "_law_word_of" s_law_word_of ["e"]) (S_law_tried : Src K mg "_law_tried" s_law_tried ["text"]) (S_law_spoilt : Src K mg "_law_spoilt" s_law_spoilt ["parts", "way", "at"]) :
    ∃ fd : FuncData, (∀ (s : Shared) (v : Value), BindsTo s fd ⟨[v], []⟩ [("script", v)]) ∧ ∀ base : Heap, K.In base → base.Ns mainGlobals mg → FnOk l.prog w K mg base CX0 5 fa fd ["script"] (spLaw K) := by
  refine law_mk X G hfa a l1 c k (fun v => rfl) (fun base f fd F => ?_)
  have D_check_wishes := ok_check_wishes (P := l.prog) (w := w) (base := base) S_check_wishes
  have D_check_wishesX := ok_check_wishesX (P := l.prog) (w := w) (base := base) S_check_wishes R
  have D_check_row := ok_check_row (P := l.prog) (w := w) (base := base) S_check_row B D_check_wishes
  have D_check_rowX := ok_check_rowX (P := l.prog) (w := w) (base := base) S_check_row B R D_check_wishesX
  have D_number_of := ok_number_of (P := l.prog) (w := w) (base := base) S_number_of B
  have D_number_ofX := ok_number_ofX (P := l.prog) (w := w) (base := base) S_number_of B R
  have D_read := ok_read (P := l.prog) (w := w) (base := base) S_read B D_number_of D_check_row
  have D_readX := ok_readX (P := l.prog) (w := w) (base := base) S_read B R D_number_ofX D_check_rowX
  have D_law_cell_at := ok_law_cell_at (P := l.prog) (w := w) (base := base) S_law_cell_at B
  have D_law_quay_by := ok_law_quay_by (P := l.prog) (w := w) (base := base) S_law_quay_by B D_law_cell_at
  have D_law_word_of := ok_law_word_of (P := l.prog) (w := w) (base := base) S_law_word_of B R
  have D_law_tried := ok_law_tried (P := l.prog) (w := w) (base := base) S_law_tried B R D_law_word_of D_read D_readX
  have D_law_spoilt := ok_law_spoilt (P := l.prog) (w := w) (base := base) S_law_spoilt B
  exact ok_law F B D_law_cell_at D_law_quay_by D_law_tried D_law_spoilt
end Moor
open PySem PySem.W PyProof.Rows
set_option maxRecDepth 100000 in
set_option maxHeartbeats 0 in
theorem PySem.Challenge.cw_wishmoor_k22_read_holds : PySem.Challenge.rw_wishmoor_k22_read.Holds := by
  w_on; o_law; k_head; (case hw => w_witness2)
  k_fill
  refine Moor.walk (k := 5) (l := PySem.Challenge.rw_wishmoor_k22_read) (by decide) rfl rfl (fun w h Y => PySem.W.kIn_of Y) ?F
  case F =>
    intro w mg fa h KX G hmg
    refine' Moor.all_mk KX G hmg ?a ?l ?c ?k ⟨trivial, PySem.W.mg_none_of KX G ?b_ValueError, PySem.W.mg_none_of KX G ?b_all, ⟨_, PySem.W.mg_of KX G ?b_c_FIGURES, ?r_c_FIGURES⟩, ⟨_, PySem.W.mg_of KX G ?b_c_LONGEST_QUAY, ?r_c_LONGEST_QUAY⟩, ⟨_, PySem.W.mg_of KX G ?b_c_MOST_FIGURES, ?r_c_MOST_FIGURES⟩, PySem.W.mg_none_of KX G ?b_int, PySem.W.mg_none_of KX G ?b_isinstance, PySem.W.mg_none_of KX G ?b_len, PySem.W.mg_none_of KX G ?b_map, PySem.W.mg_none_of KX G ?b_range, PySem.W.mg_none_of KX G ?b_str⟩ ⟨PySem.W.mg_of KX G ?e_0, PySem.W.mg_of KX G ?e_1, PySem.W.mg_of KX G ?e_2, PySem.W.mg_of KX G ?e_3, PySem.W.mg_of KX G ?e_4, PySem.W.mg_of KX G ?e_5, PySem.W.mg_of KX G ?e_6, ?e_ok⟩
      (L2.src_mk KX G ?a_check_wishes ?l_check_wishes ?c_check_wishes ?k_check_wishes (fun _ _ _ _ _ _ us hl => match us, hl with | [_, _], _ => rfl))
      (L2.src_mk KX G ?a_check_row ?l_check_row ?c_check_row ?k_check_row (fun _ _ _ _ _ _ us hl => match us, hl with | [_, _], _ => rfl))
      (L2.src_mk KX G ?a_number_of ?l_number_of ?c_number_of ?k_number_of (fun _ _ _ _ _ _ us hl => match us, hl with | [_], _ => rfl))
      (L2.src_mk KX G ?a_read ?l_read ?c_read ?k_read (fun _ _ _ _ _ _ us hl => match us, hl with | [_], _ => rfl))
      (L2.src_mk KX G ?a_law_cell_at ?l_law_cell_at ?c_law_cell_at ?k_law_cell_at (fun _ _ _ _ _ _ us hl => match us, hl with | [_, _], _ => rfl))
      (L2.src_mk KX G ?a_law_quay_by ?l_law_quay_by ?c_law_quay_by ?k_law_quay_by (fun _ _ _ _ _ _ us hl => match us, hl with | [_], _ => rfl))
      (L2.src_mk KX G ?a_law_word_of ?l_law_word_of ?c_law_word_of ?k_law_word_of (fun _ _ _ _ _ _ us hl => match us, hl with | [_], _ => rfl))
      (L2.src_mk KX G ?a_law_tried ?l_law_tried ?c_law_tried ?k_law_tried (fun _ _ _ _ _ _ us hl => match us, hl with | [_], _ => rfl))
      (L2.src_mk KX G ?a_law_spoilt ?l_law_spoilt ?c_law_spoilt ?k_law_spoilt (fun _ _ _ _ _ _ us hl => match us, hl with | [_, _, _], _ => rfl))
    (case a => k_is); (case l => k_is); (case c => k_is); (case k => k_is)
    (case b_ValueError => k_is)
    (case b_all => k_is)
    (case b_c_FIGURES => k_is)
    (case r_c_FIGURES => exact ⟨_, rfl⟩)
    (case b_c_LONGEST_QUAY => k_is)
    (case r_c_LONGEST_QUAY => exact ⟨_, rfl⟩)
    (case b_c_MOST_FIGURES => k_is)
    (case r_c_MOST_FIGURES => exact ⟨_, rfl⟩)
    (case b_int => k_is)
    (case b_isinstance => k_is)
    (case b_len => k_is)
    (case b_map => k_is)
    (case b_range => k_is)
    (case b_str => k_is)
    (case e_0 => k_is)
    (case e_1 => k_is)
    (case e_2 => k_is)
    (case e_3 => k_is)
    (case e_4 => k_is)
    (case e_5 => k_is)
    (case e_6 => k_is)
    (case e_ok => kernel_rfl!)
    (case a_check_wishes => k_is); (case l_check_wishes => k_is); (case c_check_wishes => k_is); (case k_check_wishes => k_is)
    (case a_check_row => k_is); (case l_check_row => k_is); (case c_check_row => k_is); (case k_check_row => k_is)
    (case a_number_of => k_is); (case l_number_of => k_is); (case c_number_of => k_is); (case k_number_of => k_is)
    (case a_read => k_is); (case l_read => k_is); (case c_read => k_is); (case k_read => k_is)
    (case a_law_cell_at => k_is); (case l_law_cell_at => k_is); (case c_law_cell_at => k_is); (case k_law_cell_at => k_is)
    (case a_law_quay_by => k_is); (case l_law_quay_by => k_is); (case c_law_quay_by => k_is); (case k_law_quay_by => k_is)
    (case a_law_word_of => k_is); (case l_law_word_of => k_is); (case c_law_word_of => k_is); (case k_law_word_of => k_is)
    (case a_law_tried => k_is); (case l_law_tried => k_is); (case c_law_tried => k_is); (case k_law_tried => k_is)
    (case a_law_spoilt => k_is); (case l_law_spoilt => k_is); (case c_law_spoilt => k_is); (case k_law_spoilt => k_is)
