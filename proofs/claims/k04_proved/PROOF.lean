import PyProof.Rows.All
import Wide.All
import OpenK.AllK
import Wide.FinOn
import Lean
import PyProof.EqAt
import PyProof.EqKinds
import PyProof.TupleCall
import KE.KRevIter
import PyProof.CollectIter
import PyProof.ListRange
import PySem.Challenge.RW_floorways_k04_floors
set_option Elab.async false
set_option linter.all false
set_option maxRecDepth 100000
/-! THE HAND LAYER, for ints, bools, texts, own classes, LISTS and tuples (index, slices, in, append, pop ..), calls, loops. Paste it whole ahead of your own text; what your proof does not reach may be deleted. -/
namespace L2
open PySem PySem.Spec PyProof.Rows

/-- a key: an int or a str -/
abbrev Key := Sum Int Str
def keyIs : Key → Value → Bool
  | .inl k, v => Value.isInt k v
  | .inr x, v => Value.isStrOf x v
def keyH (w : World) : Key → Int
  | .inl k => hashInt k
  | .inr x => hashStr w x
theorem keyIs_shape : ∀ {k : Key} {v : Value}, keyIs k v = true → (∃ i t, k = Sum.inl i ∧ v = Value.int i t) ∨ (∃ x t, k = Sum.inr x ∧ v = Value.str x t)
  | .inl i, v, h => by
    obtain ⟨t, e⟩ := Value.isInt_shape (k := i) (v := v) h
    exact .inl ⟨i, t, rfl, e⟩
  | .inr x, v, h => by
    obtain ⟨t, e⟩ := Value.isStrOf_shape (x := x) (v := v) h
    exact .inr ⟨x, t, rfl, e⟩
theorem keyIs_int (i : Int) (t : Tok) : keyIs (.inl i) (.int i t) = true := by simp [keyIs, Value.isInt]
theorem keyIs_str (x : Str) (t : Tok) : keyIs (.inr x) (.str x t) = true := by simp [keyIs, Value.isStrOf]
theorem key_ll (a b : Int) : decide ((Sum.inl a : Key) = Sum.inl b) = (a == b) := by
  by_cases e : a = b
  · subst e; simp
  · have h : ¬ (Sum.inl a : Key) = Sum.inl b := fun q => e (Sum.inl.inj q)
    rw [decide_eq_false h]
    exact (beq_eq_false_iff_ne.mpr e).symm
theorem key_rr (a b : Str) : decide ((Sum.inr a : Key) = Sum.inr b) = decide (a = b) := by
  by_cases e : a = b
  · subst e; simp
  · have h : ¬ (Sum.inr a : Key) = Sum.inr b := fun q => e (Sum.inr.inj q)
    rw [decide_eq_false h, decide_eq_false e]
theorem key_lr (a : Int) (b : Str) : decide ((Sum.inl a : Key) = Sum.inr b) = false := decide_eq_false (fun q => nomatch q)
theorem key_rl (a : Str) (b : Int) : decide ((Sum.inr a : Key) = Sum.inl b) = false := decide_eq_false (fun q => nomatch q)

def mixKind (prog : Program) (w : World) : PySem.KeyKind prog w Key where
  is := keyIs
  hash := keyH w
  inj := fun v a b ha hb => by
    rcases keyIs_shape ha with ⟨i, t, rfl, rfl⟩ | ⟨x, t, rfl, rfl⟩
    · rcases keyIs_shape hb with ⟨j, u, rfl, e⟩ | ⟨y, u, rfl, e⟩
      · injection e with e1 _; rw [e1]
      · exact nomatch e
    · rcases keyIs_shape hb with ⟨j, u, rfl, e⟩ | ⟨y, u, rfl, e⟩
      · exact nomatch e
      · injection e with e1 _; rw [e1]
  byValue := fun k v h => by
    rcases keyIs_shape h with ⟨i, t, rfl, rfl⟩ | ⟨x, t, rfl, rfl⟩ <;> rfl
  pyHash := fun hv h => by
    rcases keyIs_shape hv with ⟨i, t, rfl, rfl⟩ | ⟨x, t, rfl, rfl⟩
    · exact wpAny_pyHash_int h
    · exact wpAny_pyHash_str h
  eqBool := fun hu hv h => by
    rcases keyIs_shape hu with ⟨i, t, rfl, rfl⟩ | ⟨x, t, rfl, rfl⟩
    · rcases keyIs_shape hv with ⟨j, u, rfl, rfl⟩ | ⟨y, u, rfl, rfl⟩
      · rw [key_ll] at h; exact wpAny_eqBool_int h
      · rw [key_lr] at h; exact SeqAt.EqAt.int_str i t y u _ _ _ _ h
    · rcases keyIs_shape hv with ⟨j, u, rfl, rfl⟩ | ⟨y, u, rfl, rfl⟩
      · rw [key_rl] at h; exact SeqAt.EqAt.str_int x t j u _ _ _ _ h
      · rw [key_rr] at h; exact wpAny_eqBool_str h
  «strs» := fun k x t v h => by
    rcases keyIs_shape h with ⟨i, u, rfl, e⟩ | ⟨y, u, rfl, e⟩
    · exact nomatch e
    · injection e with e1 _
      subst e1
      cases v <;> rfl

theorem mixKind_is (prog : Program) (w : World) (k : Key) (v : Value) : (mixKind prog w).is k v = keyIs k v := rfl
theorem mixKind_int (prog : Program) (w : World) (i : Int) (t : Tok) : (mixKind prog w).is (.inl i) (.int i t) = true := keyIs_int i t
theorem mixKind_str (prog : Program) (w : World) (x : Str) (t : Tok) : (mixKind prog w).is (.inr x) (.str x t) = true := keyIs_str x t
end L2

namespace L2
open PySem PySem.Spec PyProof.Rows

/-- a value, without the heap -/
inductive V where
  | non | bl (b : Bool) | int (i : Int) | str (x : Str) | byt (b : Array UInt8) | flt (b : UInt64) | ref (a : Addr) | ty (n : String)
  deriving DecidableEq

def RelV : V → Value → Prop
  | .non, u => u = Value.none
  | .bl b, u => u = Value.bool b
  | .int i, u => ∃ t, u = Value.int i t
  | .str x, u => ∃ t, u = Value.str x t
  | .byt b, u => ∃ t, u = Value.bytes b t
  | .flt b, u => ∃ t, u = Value.float b t
  | .ref a, u => u = Value.ref a
  | .ty n, u => u = Value.type n

abbrev Vals : List V → List Value → Prop := Paired RelV
theorem Vals.length {xs : List V} {us : List Value} (r : Vals xs us) : xs.length = us.length := Paired.length r
theorem Vals.get : ∀ {xs : List V} {us : List Value} {i : Nat} {x : V}, Vals xs us → xs[i]? = some x → ∃ u, us[i]? = some u ∧ RelV x u
  | _, _, _, _, .nil, e => by simp at e
  | _, _, 0, _, .cons r _, e => by simp at e; subst e; exact ⟨_, rfl, r⟩
  | _, _, i + 1, x, .cons _ t, e => by
    obtain ⟨u, h1, h2⟩ := Vals.get (i := i) (x := x) t (by simpa using e)
    exact ⟨u, by simpa using h1, h2⟩
theorem Vals.set {x : V} {u : Value} (r : RelV x u) : ∀ {xs : List V} {us : List Value} (i : Nat), Vals xs us → Vals (xs.set i x) (us.set i u)
  | _, _, _, .nil => .nil
  | _, _, 0, .cons _ t => .cons r t
  | _, _, i + 1, .cons q t => .cons q (Vals.set r i t)
theorem Vals.append : ∀ {xs ys : List V} {us ws : List Value}, Vals xs us → Vals ys ws → Vals (xs ++ ys) (us ++ ws)
  | _, _, _, _, .nil, s => s
  | _, _, _, _, .cons r t, s => .cons r (Vals.append t s)
theorem Vals.take : ∀ {xs : List V} {us : List Value} (n : Nat), Vals xs us → Vals (xs.take n) (us.take n)
  | _, _, 0, _ => .nil
  | _, _, _ + 1, .nil => .nil
  | _, _, n + 1, .cons r t => .cons r (Vals.take n t)
theorem Vals.drop : ∀ {xs : List V} {us : List Value} (n : Nat), Vals xs us → Vals (xs.drop n) (us.drop n)
  | _, _, 0, r => r
  | _, _, _ + 1, .nil => .nil
  | _, _, n + 1, .cons _ t => Vals.drop n t
theorem Vals.none_of : ∀ {xs : List V} {us : List Value} {i : Nat}, Vals xs us → xs[i]? = none → us[i]? = none := fun {xs us i} r e => by
  have h1 := r.length
  have h2 : xs.length ≤ i := List.getElem?_eq_none_iff.mp e
  exact List.getElem?_eq_none_iff.mpr (by omega)

def RelO : Option V → Option Value → Prop
  | some v, some u => RelV v u
  | none, none => True
  | _, _ => False
def KV {κ : Type} : List (κ × V) → List (κ × Value) → Prop := Paired fun (p : κ × V) (q : κ × Value) => p.1 = q.1 ∧ RelV p.2 q.2

/-- a key of a dict (00_mix): an int or a text -/
def kV : Key → V
  | .inl i => .int i
  | .inr x => .str x

/-- what stands at a tracked address -/
inductive HO where
  /-- a list -/
  | lst (xs : List V)
  /-- a tuple (never changes) -/
  | tup (xs : List V)
  /-- a dict whose keys are ints and texts; one whose keys are tuples of ints and texts (the empty one is both) -/
  | dK (kvs : List (Key × V)) | dT (kvs : List (List Key × V))
  /-- a set of ints: its members, its size -/
  | set (S : Int → Bool) (n : Nat)
  /-- an instance of the class at C, its dict at dx, its attributes -/
  | ins (C dx : Addr) (fs : List (Str × V))
  /-- the dict of the instance at x -/
  | own (x : Addr)
  /-- the dict of an exception -/
  | xd (fs : List (Str × V))
  /-- a bound method, f of x -/
  | met (f x : Addr)
  /-- a range object lo, lo + 1, .. below hi -/
  | rng (lo hi : Int)
  /-- a thing that is known to the object (the script; a dict while a loop walks it): read, never written while it is so -/
  | frz (o : Obj) (u : HO)
  /-- a code object's table -/
  | tbl (ps : Array Value)
  /-- any other thing, by what is true of its one object (a def of one's own: SetO a S n := HO.ext fun h => ..) -/
  | ext (φ : Heap → Prop)

abbrev Hp := Addr → Option HO
def upd (H : Hp) (a : Addr) (o : HO) : Hp := fun b => if b = a then some o else H b
theorem upd_same {H : Hp} {a : Addr} {o : HO} : upd H a o a = some o := by unfold upd; rw [if_pos rfl]
theorem upd_ne {H : Hp} {a b : Addr} {o : HO} (h : b ≠ a) : upd H a o b = H b := by unfold upd; rw [if_neg h]
theorem upd_upd {H : Hp} {a : Addr} {o u : HO} : upd (upd H a o) a u = upd H a u := by
  funext b; unfold upd; split <;> rfl
/-- two objects of different content stand apart -/
theorem ne_of {H : Hp} {a b : Addr} {o u : HO} (h : H a = some o) (h' : H b = some u) (d : o ≠ u) : a ≠ b := by
  intro e; subst e; rw [h] at h'; exact d (Option.some.inj h')
theorem ne_of_none {H : Hp} {a b : Addr} {o : HO} (h : H a = some o) (h' : H b = none) : a ≠ b := by
  intro e; subst e; rw [h] at h'; cases h'

section
variable (P : Program) (w : World)
def ObjOk (H : Hp) (h : Heap) (a : Addr) : HO → Prop
  | .lst xs => xs.length ≤ sizeLine ∧ ∃ (its : List Value) (n : Nat), Vals xs its ∧ h.get? a = some { cls := .type "list", data := .seq its.toArray n }
  | .tup xs => xs.length ≤ sizeLine ∧ ∃ its : List Value, Vals xs its ∧ IsTup h a its.toArray
  | .dK kvs => kvs.length ≤ sizeLine ∧ (a == sysModules) = false ∧ ∃ vs, KV kvs vs ∧ h.DictOf (mixKind P w) a vs
  | .dT kvs => kvs.length ≤ sizeLine ∧ (a == sysModules) = false ∧ ∃ xs : List (List Key × Addr × Value),
      Paired (fun (p : List Key × V) (q : List Key × Addr × Value) => p.1 = q.1 ∧ H q.2.1 = some (.tup (p.1.map kV)) ∧ RelV p.2 q.2.2) kvs xs ∧
      ∃ o es ep, h.get? a = some o ∧ o.ExactDict ∧ o.data = .dict es ep ∧ es.toList = xs.map (entryOfKey (tupleKind (mixKind P w))) ∧ (xs.map (·.1)).Nodup
  | .set S n => h.SetOf (intKind P w) a S n
  | .ins C dx fs => H dx = some (.own a) ∧ fs.length ≤ 1000 ∧ dx ≠ a ∧ h.get? a = some (PySem.W.instObj C dx) ∧
      ∃ mA, h.Ns1 dx mA ∧ (∀ f, RelO (fs.lookup f) (mA f)) ∧ PySem.Within mA (fs.map (·.1))
  | .own _ => ∃ o, h.get? a = some o
  | .xd fs => ∃ mA, h.Ns1 a mA ∧ ∀ f, RelO (fs.lookup f) (mA f)
  | .rng lo hi => ∃ t u v, h.get? a = some { cls := .type "range", data := .fields #[.int lo t, .int hi u, .int 1 v] }
  | .frz o u => h.get? a = some o ∧ ObjOk H h a u
  | .tbl ps => h.get? a = some { cls := .none, data := .fields ps }
  | .met f x => h.get? a = some (PySem.W.methodObj (.ref f) (.ref x))
  | .ext φ => φ h ∧ (∃ o, h.get? a = some o) ∧ ∀ h1 h2 : Heap, φ h1 → (∀ o, h1.get? a = some o → h2.get? a = some o) → φ h2
/-- the abstract heap is held -/
def HOk (H : Hp) (h : Heap) : Prop := ∀ a o, H a = some o → ObjOk P w H h a o
end

section
variable {P : Program} {w : World} {H H' : Hp} {h h' : Heap} {a : Addr} {o : HO}
theorem ObjOk.lt (x : ObjOk P w H h a o) : a < h.objs.size := by
  cases o with
  | lst xs => obtain ⟨_, _, _, _, e⟩ := x; exact Heap.lt_size e
  | tup xs => obtain ⟨_, _, _, p⟩ := x; exact p.lt
  | dK kvs => obtain ⟨_, _, _, _, o, _, _, e, _⟩ := x; exact Heap.lt_size e
  | dT kvs => obtain ⟨_, _, _, _, o, _, _, e, _⟩ := x; exact Heap.lt_size e
  | set S n => obtain ⟨o, _, _, _, e, _⟩ := x; exact Heap.lt_size e
  | ins C dx fs => obtain ⟨_, _, _, e, _⟩ := x; exact Heap.lt_size e
  | own y => obtain ⟨_, e⟩ := x; exact Heap.lt_size e
  | xd fs => obtain ⟨_, ⟨_, _, _, e, _⟩, _⟩ := x; exact Heap.lt_size e
  | rng lo hi => obtain ⟨_, _, _, e⟩ := x; exact Heap.lt_size e
  | frz ob u => obtain ⟨e, _⟩ := x; exact Heap.lt_size e
  | tbl ps => exact Heap.lt_size (show h.get? a = some _ from x)
  | met f y => exact Heap.lt_size (show h.get? a = some _ from x)
  | ext φ => obtain ⟨_, ⟨_, e⟩, _⟩ := x; exact Heap.lt_size e
theorem Paired.mapP {α β : Type} {F G : α → β → Prop} : ∀ {l₁ : List α} {l₂ : List β}, Paired F l₁ l₂ → (∀ a b, F a b → G a b) → Paired G l₁ l₂
  | _, _, .nil, _ => .nil
  | _, _, .cons r t, f => .cons (f _ _ r) (Paired.mapP t f)
theorem Paired.imp' {α β : Type} {F G : α → β → Prop} (f : ∀ a b, F a b → G a b) {l₁ : List α} {l₂ : List β} (r : Paired F l₁ l₂) : Paired G l₁ l₂ := Paired.mapP r f
/-- what an object's description leans on: its own object, its own dict, the tuples -/
theorem ObjOk.stay (x : ObjOk P w H h a o) (k : ∀ b u, (b = a ∨ H b = some (.own a)) → h.get? b = some u → h'.get? b = some u)
    (ho : ∀ b, H b = some (.own a) → H' b = some (.own a)) (ht : ∀ b xs, H b = some (.tup xs) → H' b = some (.tup xs)) : ObjOk P w H' h' a o := by
  induction o with
  | lst xs => obtain ⟨z, its, n, r, e⟩ := x; exact ⟨z, its, n, r, k _ _ (.inl rfl) e⟩
  | tup xs => obtain ⟨z, its, r, ob, e, c⟩ := x; exact ⟨z, its, r, ob, k _ _ (.inl rfl) e, c⟩
  | dK kvs => obtain ⟨z, y, vs, r, ob, es, ep, e, c⟩ := x; exact ⟨z, y, vs, r, ob, es, ep, k _ _ (.inl rfl) e, c⟩
  | dT kvs =>
    obtain ⟨z, y, xs, r, ob, es, ep, e, c⟩ := x
    exact ⟨z, y, xs, Paired.mapP r fun p q z => ⟨z.1, ht _ _ z.2.1, z.2.2⟩, ob, es, ep, k _ _ (.inl rfl) e, c⟩
  | set S n => obtain ⟨ob, es, ep, t, e, c⟩ := x; exact ⟨ob, es, ep, t, k _ _ (.inl rfl) e, c⟩
  | ins C dx fs =>
    obtain ⟨d, z, ne, e, mA, ⟨od, es, ep, e2, c⟩, r⟩ := x
    exact ⟨ho _ d, z, ne, k _ _ (.inl rfl) e, mA, ⟨od, es, ep, k _ _ (.inr d) e2, c⟩, r⟩
  | own y => obtain ⟨ob, e⟩ := x; exact ⟨ob, k _ _ (.inl rfl) e⟩
  | xd fs => obtain ⟨mA, ⟨od, es, ep, e, c⟩, r⟩ := x; exact ⟨mA, ⟨od, es, ep, k _ _ (.inl rfl) e, c⟩, r⟩
  | rng lo hi => obtain ⟨t, u, v, e⟩ := x; exact ⟨t, u, v, k _ _ (.inl rfl) e⟩
  | frz ob u ih => obtain ⟨e, q⟩ := x; exact ⟨k _ _ (.inl rfl) e, ih q⟩
  | tbl ps =>
    have e : h.get? a = some { cls := .none, data := .fields ps } := x
    show h'.get? a = some { cls := .none, data := .fields ps }
    exact k a _ (.inl rfl) e
  | met f y =>
    have e : h.get? a = some (PySem.W.methodObj (.ref f) (.ref y)) := x
    show h'.get? a = some (PySem.W.methodObj (.ref f) (.ref y))
    exact k a _ (.inl rfl) e
  | ext φ => obtain ⟨p, ⟨o, e⟩, st⟩ := x; exact ⟨st _ _ p fun o q => k _ _ (.inl rfl) q, ⟨o, k _ _ (.inl rfl) e⟩, st⟩
theorem HOk.lt (x : HOk P w H h) (e : H a = some o) : a < h.objs.size := (x a o e).lt
theorem HOk.fresh (x : HOk P w H h) (e : h.objs.size ≤ a) : H a = none := by
  cases q : H a with
  | none => rfl
  | some u => exact absurd (Nat.lt_of_lt_of_le (x.lt q) e) (Nat.lt_irrefl _)
/-- every object of the heap is kept -/
theorem HOk.kept (x : HOk P w H h) (k : ∀ b u, h.get? b = some u → h'.get? b = some u) : HOk P w H h' := fun a o e =>
  (x a o e).stay (fun b u _ q => k b u q) (fun _ q => q) fun _ _ q => q
/-- a new object is laid and tracked -/
theorem HOk.laid (x : HOk P w H h) (k : ∀ b u, h.get? b = some u → h'.get? b = some u) (hp : h.objs.size ≤ a) (new : ObjOk P w (upd H a o) h' a o) : HOk P w (upd H a o) h' := fun b u e => by
  have hn := x.fresh hp
  by_cases hb : b = a
  · subst hb; rw [upd_same] at e; cases e; exact new
  · rw [upd_ne hb] at e
    exact (x b u e).stay (fun c v _ q => k c v q) (fun c q => by rw [upd_ne (ne_of_none q hn)]; exact q) fun c xs q => by rw [upd_ne (ne_of_none q hn)]; exact q
end

/-- what may be read as u: it is u, or a known u -/
def Rd (H : Hp) (a : Addr) (u : HO) : Prop := H a = some u ∨ ∃ o, H a = some (.frz o u)
theorem Rd.of {H : Hp} {a : Addr} {u : HO} (h : H a = some u) : Rd H a u := .inl h
theorem Rd.ok {P : Program} {w : World} {H : Hp} {h : Heap} {a : Addr} {u : HO} (r : Rd H a u) (x : HOk P w H h) : ObjOk P w H h a u := by
  rcases r with r | ⟨o, r⟩
  · exact x a u r
  · obtain ⟨_, q⟩ := x a _ r
    exact q
/-- what may be written -/
def Mut : Option HO → Prop
  | some (.lst _) => True
  | some (.dK _) => True
  | some (.dT _) => True
  | some (.set _ _) => True
  | some (.ins _ _ _) => True
  | some (.ext _) => True
  | _ => False
section
variable {P : Program} {w : World} {H : Hp} {h h' : Heap} {x e : Addr} {o' : HO}
/-- the object at e is changed: x itself, or the dict of the instance x -/
theorem HOk.write (ok : HOk P w H h) (mu : Mut (H x)) (he : e = x ∨ H e = some (.own x)) (k : ∀ b u, b ≠ e → h.get? b = some u → h'.get? b = some u) (heo : ∃ u, h'.get? e = some u)
    (new : ObjOk P w (upd H x o') h' x o') : HOk P w (upd H x o') h' := fun b u q => by
  have nown : ∀ c y, H c = some (.own y) → c ≠ x := fun c y r z => by subst z; rw [r] at mu; exact mu
  have ntup : ∀ c xs, H c = some (.tup xs) → c ≠ x := fun c xs r z => by subst z; rw [r] at mu; exact mu
  by_cases hb : b = x
  · subst hb; rw [upd_same] at q; cases q; exact new
  · rw [upd_ne hb] at q
    by_cases hbe : b = e
    · have q' : H b = some (.own x) := by
        rcases he with z | z
        · exact absurd (hbe.trans z) hb
        · rw [hbe]; exact z
      rw [q] at q'; cases q'
      obtain ⟨v, hv⟩ := heo
      exact ⟨v, by rw [hbe]; exact hv⟩
    · refine (ok b u q).stay (fun c v hc r => k c v ?_ r) (fun c r => by rw [upd_ne (nown c b r)]; exact r) fun c xs r => by rw [upd_ne (ntup c xs r)]; exact r
      rcases hc with rfl | hc
      · exact hbe
      · rintro rfl
        rcases he with z | z
        · exact nown c b hc z
        · rw [hc] at z; cases z; exact hb rfl
end

/-! ### kept unless tracked; of the frames at fs (the callers') the slots may change (an exception that passes writes there); of the records at ex (iterators) nothing is said -/
structure Un (fs ex : List Addr) (H H' : Hp) (h h' : Heap) : Prop where
  keep : ∀ b o, h.get? b = some o → H b = none → b ∉ fs → b ∉ ex → h'.get? b = some o
  slot : ∀ b o, h.get? b = some o → H b = none → b ∈ fs → b ∉ ex → ∃ sl, h'.get? b = some { o with slots := sl }
  free : ∀ b o, h.get? b = some o → H b = none → b ∉ ex → H' b = none
  there : ∀ b o, h.get? b = some o → b ∉ ex → ∃ o', h'.get? b = some o'
  tups : ∀ b xs, H b = some (.tup xs) → H' b = some (.tup xs)
  frzs : ∀ b o u, H b = some (.frz o u) → H' b = some (.frz o u)
  tbls : ∀ b ps, H b = some (.tbl ps) → ∃ more, H' b = some (.tbl (ps ++ more))
section
variable {fs fs' ex ex' : List Addr} {H H1 H2 : Hp} {h h1 h2 h' : Heap} {a x e : Addr} {o : HO}
theorem Un.any (u : Un fs ex H H1 h h1) {b : Addr} {ob : Obj} (q : h.get? b = some ob) (n : H b = none) (hx : b ∉ ex) : ∃ sl, h1.get? b = some { ob with slots := sl } := by
  by_cases hb : b ∈ fs
  · exact u.slot b ob q n hb hx
  · exact ⟨ob.slots, u.keep b ob q n hb hx⟩
theorem Un.trans (a : Un fs ex H H1 h h1) (b : Un fs ex H1 H2 h1 h2) : Un fs ex H H2 h h2 where
  keep := fun c ob q n hc hx => b.keep c ob (a.keep c ob q n hc hx) (a.free c ob q n hx) hc hx
  slot := fun c ob q n hc hx => by
    obtain ⟨sl, e1⟩ := a.slot c ob q n hc hx
    obtain ⟨sl', e2⟩ := b.slot c _ e1 (a.free c ob q n hx) hc hx
    exact ⟨sl', e2⟩
  free := fun c ob q n hx => by
    obtain ⟨o', e1⟩ := a.there c ob q hx
    exact b.free c o' e1 (a.free c ob q n hx) hx
  there := fun c ob q hx => by
    obtain ⟨o', e1⟩ := a.there c ob q hx
    exact b.there c o' e1 hx
  tups := fun c xs q => b.tups c xs (a.tups c xs q)
  frzs := fun c ob xs q => b.frzs c ob xs (a.frzs c ob xs q)
  tbls := fun c ps q => by
    obtain ⟨m1, e1⟩ := a.tbls c ps q
    obtain ⟨m2, e2⟩ := b.tbls c _ e1
    exact ⟨m1 ++ m2, by rw [e2, Array.append_assoc]⟩
theorem Un.kept (k : ∀ b u, h.get? b = some u → h'.get? b = some u) : Un fs ex H H h h' :=
  ⟨fun b ob q _ _ _ => k b ob q, fun b ob q _ _ _ => ⟨ob.slots, k b ob q⟩, fun _ _ _ n _ => n, fun b ob q _ => ⟨ob, k b ob q⟩, fun _ _ q => q, fun _ _ _ q => q, fun _ ps q => ⟨#[], by rw [q]; simp⟩⟩
theorem Un.refl : Un fs ex H H h h := Un.kept fun _ _ q => q
theorem Un.laid (k : ∀ b u, h.get? b = some u → h'.get? b = some u) (hp : h.objs.size ≤ a) (hn : H a = none) : Un fs ex H (upd H a o) h h' where
  keep := fun b u q _ _ _ => k b u q
  slot := fun b u q _ _ _ => ⟨u.slots, k b u q⟩
  free := fun b u q n _ => by rw [upd_ne (Nat.ne_of_lt (Nat.lt_of_lt_of_le (Heap.lt_size q) hp))]; exact n
  there := fun b u q _ => ⟨u, k b u q⟩
  tups := fun b xs q => by rw [upd_ne (ne_of_none q hn)]; exact q
  frzs := fun b u xs q => by rw [upd_ne (ne_of_none q hn)]; exact q
  tbls := fun b ps q => ⟨#[], by rw [upd_ne (ne_of_none q hn), q]; simp⟩
theorem Un.write (mu : Mut (H x)) (he : e = x ∨ H e = some (.own x)) (k : ∀ b u, b ≠ e → h.get? b = some u → h'.get? b = some u) (heo : ∃ u, h'.get? e = some u) : Un fs ex H (upd H x o) h h' := by
  have hx : ∀ b, H b = none → b ≠ x := fun b n z => by subst z; rw [n] at mu; exact mu
  have hb : ∀ b, H b = none → b ≠ e := fun b n z => by
    subst z
    rcases he with r | r
    · exact hx b n r
    · rw [n] at r; cases r
  have hm : ∀ b u, H b = some u → ¬ Mut (some u) → b ≠ x := fun b u q nm z => by subst z; rw [q] at mu; exact nm mu
  refine ⟨fun b u q n _ _ => k b u (hb b n) q, fun b u q n _ _ => ⟨u.slots, k b u (hb b n) q⟩, fun b u q n _ => by rw [upd_ne (hx b n)]; exact n, fun b u q _ => ?_,
    fun b xs q => by rw [upd_ne (hm b _ q fun z => z)]; exact q, fun b u xs q => by rw [upd_ne (hm b _ q fun z => z)]; exact q, fun b ps q => ⟨#[], by rw [upd_ne (hm b _ q fun z => z), q]; simp⟩⟩
  by_cases hbe : b = e
  · subst hbe; exact heo
  · exact ⟨u, k b u hbe q⟩
theorem Un.mono (u : Un fs ex H H1 h h1) (hs : ∀ b ∈ fs, b ∈ fs') (hx : ∀ b ∈ ex, b ∈ ex') : Un fs' ex' H H1 h h1 :=
  ⟨fun b ob q n hb he => u.keep b ob q n (fun z => hb (hs b z)) fun z => he (hx b z), fun _ _ q n _ he => u.any q n fun z => he (hx _ z), fun b ob q n he => u.free b ob q n fun z => he (hx b z), fun b ob q he => u.there b ob q fun z => he (hx b z), u.tups, u.frzs, u.tbls⟩
end

/-! ### the heap without what is tracked -/
def trk (h : Heap) (H : Hp) : List Addr := (List.range h.objs.size).filter fun a => (H a).isSome
def hidT (h : Heap) (H : Hp) : Heap := PySem.W.hideAll h (trk h H)
theorem hidT_size (h : Heap) (H : Hp) : (hidT h H).objs.size = h.objs.size := PySem.W.hideAll_size _ _
theorem hidT_get {h : Heap} {H : Hp} {b : Addr} {o : Obj} (e : h.get? b = some o) (n : H b = none) : (hidT h H).get? b = some o :=
  PySem.W.hideAll_get _ e fun hm => by
    have q : (H b).isSome = true := (List.mem_filter.mp hm).2
    rw [n] at q; simp at q
theorem of_hidT {h : Heap} {H : Hp} {b : Addr} {o : Obj} (e : (hidT h H).get? b = some o) : h.get? b = some o ∧ H b = none := by
  have e' : h.get? b = some o := PySem.W.of_hideAll (trk h H) e
  refine ⟨e', ?_⟩
  cases q : H b with
  | none => rfl
  | some x =>
    have hm : b ∈ trk h H := List.mem_filter.mpr ⟨List.mem_range.mpr (Heap.lt_size e'), by simp [q]⟩
    have z : (hidT h H).get? b = none := PySem.W.hideAll_none (trk h H) hm
    rw [z] at e; cases e

/-! ### OpenK's ledger, filled with every new object but one -/
def allNews (g h : Heap) (L : Addr) : List (Addr × Obj) := (List.range h.objs.size).filterMap fun a => if a = L ∨ (g.get? a).isSome = true then none else (h.get? a).map fun o => (a, o)
theorem mem_allNews {g h : Heap} {L a : Addr} {o : Obj} (h1 : a ≠ L) (h2 : g.get? a = none) (h3 : h.get? a = some o) : (a, o) ∈ allNews g h L :=
  List.mem_filterMap.mpr ⟨a, List.mem_range.mpr (Heap.lt_size h3), by simp [h1, h2, h3]⟩
theorem of_mem_allNews {g h : Heap} {L : Addr} {p : Addr × Obj} (hp : p ∈ allNews g h L) : p.1 ≠ L ∧ g.get? p.1 = none ∧ h.get? p.1 = some p.2 := by
  obtain ⟨b, _, e⟩ := List.mem_filterMap.mp hp
  split at e
  · cases e
  · rename_i hn
    cases q : h.get? b with
    | none => rw [q] at e; simp at e
    | some u =>
      rw [q] at e
      simp only [Option.map_some, Option.some.injEq] at e
      subst e
      refine ⟨fun z => hn (.inl z), ?_, q⟩
      show g.get? b = none
      cases r : g.get? b with
      | none => rfl
      | some v => exact (hn (.inr (by simp [r]))).elim
def rest (g h : Heap) (L d : Addr) : List (Addr × Obj) := (allNews g h L).filter fun p => decide (p.1 ≠ d)
theorem rest_ne {g h : Heap} {L d : Addr} : ∀ p ∈ rest g h L d, p.1 ≠ d := fun p hp => of_decide_eq_true (List.mem_filter.mp hp).2
theorem mem_rest {g h : Heap} {L d a : Addr} {o : Obj} (h1 : a ≠ L) (h2 : g.get? a = none) (h3 : h.get? a = some o) (h4 : a ≠ d) : (a, o) ∈ rest g h L d :=
  List.mem_filter.mpr ⟨mem_allNews h1 h2 h3, decide_eq_true h4⟩
theorem news_all {g h : Heap} {L : Addr} : News g L h (allNews g h L) := fun p hp => let ⟨a, b, c⟩ := of_mem_allNews hp; ⟨c, a, b⟩
theorem news_at {g h : Heap} {L d : Addr} {o : Obj} (h1 : d ≠ L) (h2 : g.get? d = none) (h3 : h.get? d = some o) : News g L h ((d, o) :: rest g h L d) := fun p hp => by
  rcases List.mem_cons.mp hp with rfl | hp
  · exact ⟨h3, h1, h2⟩
  · exact news_all p (List.mem_filter.mp hp).1
/-- behind a rule that changed d alone: all else but the frame is kept -/
theorem kept_of_news {g h h' : Heap} {L d : Addr} {m : Str → Option Value} (k : ∀ b o, g.get? b = some o → h.get? b = some o) (F : Fr g L h' m) (N : News g L h' (rest g h L d)) :
    ∀ b o, b ≠ L → b ≠ d → h.get? b = some o → h'.get? b = some o := fun b o h1 h2 e => by
  cases q : g.get? b with
  | some u =>
    have := k b u q
    rw [e] at this; cases this
    exact F.keep b _ q
  | none => exact (N (b, o) (mem_rest h1 q e h2)).1
end L2

namespace L2
open PySem PySem.Spec PyProof.Rows

/-- the module's facts, over the base: the heap at the law's entry without what is tracked there -/
structure Mod (K : PySem.W.Frag) (mg : Str → Option Value) (base : Heap) : Prop where
  kin : K.In base
  glob : base.Ns mainGlobals mg
  blt : ∃ mb, base.Ns builtinsNs mb ∧ ∀ x : Str, x ≠ "__name__" → mb x = bootBuiltins x
  nolimit : base.NoLimit

/-- the context: a def's body (or a comprehension's block) running. base: fixed through the whole law; s₀, H₀: the entry; outer: the frames whose slots others may change (a def's callers); stack: all frames that run;
   ex: iterators that were made ahead of the entry and are walked here (a comprehension's); fn: the names whose cells were made at the entry (a def: all; a comprehension's block: its own); calm: not within an except suite; pn: pins that every state bears; xe: what is wanted of an exception that leaves the code -/
structure Cx where
  prog : Program
  w : World
  K : PySem.W.Frag
  mg : Str → Option Value
  base : Heap
  A : Around
  N : List Str
  s₀ : Shared
  H₀ : Hp
  env : Env
  outer : List Env
  stack : List Env
  ex : List Addr
  fn : Str → Bool
  calm : Bool
  pn : List (Addr × Obj)
  xe : Value → Shared → Prop
/-- the callers' frames -/
def frs (l : List Env) : List Addr := l.filterMap (·.frame)
abbrev Cx.fs (X : Cx) : List Addr := frs X.outer

def Vis (sc : Scope) (x : Str) : Prop := sc.names.lookup x = some .local ∨ sc.names.lookup x = some .cell ∨ sc.names.lookup x = some .free
def Loc (sc : Scope) (x : Str) : Prop := sc.names.lookup x = some .local ∨ sc.names.lookup x = some .cell
def Look (env : Env) (h : Heap) (m : Str → Option Value) (x : Str) (u : Value) : Prop :=
  (env.kindOf x = some .local ∧ m x = some u) ∨ ((env.kindOf x = some .cell ∨ env.kindOf x = some .free) ∧ ∃ c, env.cells.lookup x = some c ∧ h.IsCell c (some u))

structure Cx.Ok (X : Cx) : Prop where
  mod : Mod X.K X.mg X.base
  kind : X.env.scope.kind = .function
  glob : X.env.globals = mainGlobals
  blt : X.env.builtins = builtinsNs
  above : X.s₀.heap.objs.size ≤ X.env.locals
  inj : ∀ x y c, X.env.cells.lookup x = some c → X.env.cells.lookup y = some c → x = y
  has : ∀ x, (X.env.kindOf x = some .cell ∨ X.env.kindOf x = some .free) → ∃ c, X.env.cells.lookup x = some c
  cab : ∀ x c, X.fn x = true → X.env.cells.lookup x = some c → X.s₀.heap.objs.size ≤ c
  hd : X.calm = true → X.A.handled = none
  frames : X.A.frames = some X.stack
  stk : X.stack = X.outer ∨ (X.stack = X.env :: X.outer ∧ X.env.frame = some X.env.locals)
  exf : ∀ b ∈ X.ex, b ≠ X.env.locals ∧ ∀ x c, X.env.cells.lookup x = some c → c ≠ b
  bs : ∀ b o, X.base.get? b = some o → X.s₀.heap.get? b = some o ∧ X.H₀ b = none
  bsz : X.base.objs.size ≤ X.s₀.heap.objs.size
  noex : ∀ b o, X.base.get? b = some o → b ∉ X.ex
  exfs : ∀ b ∈ X.ex, b ∉ X.fs
  funs : X.s₀.heap.FunFrames X.base X.outer
  frf : ∀ b ∈ X.fs, X.H₀ b = none

structure Inv (X : Cx) (pins : List (Addr × Obj)) (σ : List (Option V)) (H : Hp) (s : Shared) : Prop where
  ok : X.Ok
  os : s.os = X.s₀.os
  bare : AllBare s.gens
  base : Un X.fs X.ex X.H₀ H X.s₀.heap s.heap
  loc : ∃ m, s.heap.Ns X.env.locals m ∧ ∀ (i : Nat) (x : Str) (v : V), X.N[i]? = some x → σ[i]? = some (some v) → Vis X.env.scope x → ∃ u, RelV v u ∧ Look X.env s.heap m x u
  cell : ∀ x c, X.env.cells.lookup x = some c → ∃ v, s.heap.IsCell c v
  free : H X.env.locals = none
  freeC : ∀ x c, X.env.cells.lookup x = some c → H c = none
  pin : ∀ p ∈ X.pn ++ pins, s.heap.get? p.1 = some p.2 ∧ H p.1 = none ∧ p.1 ≠ X.env.locals ∧ p.1 ∉ X.fs ∧ ∀ v, p.2.data ≠ .cell v
  hok : HOk X.prog X.w H s.heap
  len : σ.length = X.N.length

section
variable {X : Cx} {pins : List (Addr × Obj)} {σ : List (Option V)} {H H' : Hp} {s : Shared} {h' : Heap}

theorem Cx.Ok.nofr (ok : X.Ok) {b : Addr} {o : Obj} (e : X.base.get? b = some o) : b ∉ X.fs := fun hb => by
  have := (ok.funs.mem hb).1
  rw [e] at this; cases this
theorem Inv.bs (I : Inv X pins σ H s) : ∀ b o, X.base.get? b = some o → s.heap.get? b = some o ∧ H b = none := fun b o e =>
  ⟨I.base.keep b o (I.ok.bs b o e).1 (I.ok.bs b o e).2 (I.ok.nofr e) (I.ok.noex b o e), I.base.free b o (I.ok.bs b o e).1 (I.ok.bs b o e).2 (I.ok.noex b o e)⟩
theorem Inv.bk (I : Inv X pins σ H s) : ∀ b o, X.base.get? b = some o → s.heap.get? b = some o := fun b o e => (I.bs b o e).1
theorem Inv.mod (I : Inv X pins σ H s) : Mod X.K X.mg X.base := I.ok.mod
theorem Inv.kIn (I : Inv X pins σ H s) : X.K.In s.heap := I.ok.mod.kin.keeps I.bk
theorem Inv.nolimit (I : Inv X pins σ H s) : s.heap.NoLimit := I.ok.mod.nolimit.keeps I.bk
/-- the frame over the base: for OpenK's rules (K.In X.base is I.mod.kin) -/
theorem Inv.fr (I : Inv X pins σ H s) : ∃ m, Fr X.base X.env.locals s.heap m :=
  let ⟨m, hn, _⟩ := I.loc
  ⟨m, hn, I.bk, Nat.le_trans I.ok.bsz I.ok.above⟩
theorem Inv.lt (I : Inv X pins σ H s) : X.env.locals < s.heap.objs.size := let ⟨_, hn, _⟩ := I.loc; hn.lt
theorem Inv.sz (I : Inv X pins σ H s) : X.s₀.heap.objs.size ≤ s.heap.objs.size := Nat.le_trans I.ok.above (Nat.le_of_lt I.lt)
theorem Inv.nofs (I : Inv X pins σ H s) {a : Addr} (h : s.heap.objs.size ≤ a) : a ∉ X.fs := fun hb => by
  obtain ⟨_, o, ho, _⟩ := I.ok.funs.mem hb
  exact absurd (Nat.lt_of_lt_of_le (Heap.lt_size ho) (Nat.le_trans I.sz h)) (Nat.lt_irrefl _)
theorem Inv.cne (I : Inv X pins σ H s) : ∀ x c, X.env.cells.lookup x = some c → c ≠ X.env.locals := fun x c e z => by
  obtain ⟨v, o, ho, hd⟩ := I.cell x c e
  obtain ⟨m, ⟨o', es, ep, ho', hd', _⟩, _⟩ := I.loc
  rw [z, ho'] at ho; cases ho; rw [hd'] at hd; cases hd
theorem Inv.funs (I : Inv X pins σ H s) : s.heap.FunFrames X.base X.outer := by
  have all : ∀ (l : List Env), (∀ b ∈ frs l, b ∈ X.fs) → X.s₀.heap.FunFrames X.base l → s.heap.FunFrames X.base l := by
    intro l
    induction l with
    | nil => intro _ _; trivial
    | cons env r ih =>
      intro hs hl
      obtain ⟨hk, ⟨L, o, hf, hn, ho, hd⟩, hr⟩ := hl
      have hL : L ∈ X.fs := hs L (by unfold frs; rw [List.filterMap_cons, hf]; exact List.mem_cons_self)
      obtain ⟨sl, e⟩ := I.base.slot L o ho (I.ok.frf L hL) hL fun z => I.ok.exfs L z hL
      exact ⟨hk, ⟨L, _, hf, hn, e, hd⟩, ih (fun b hb => hs b (by unfold frs; rw [List.filterMap_cons, hf]; exact List.mem_cons_of_mem _ hb)) hr⟩
  exact all X.outer (fun _ hb => hb) I.ok.funs

/-- the frames that run, for a call -/
theorem Inv.stack (I : Inv X pins σ H s) : s.heap.FunFrames X.base X.stack := by
  rcases I.ok.stk with e | ⟨e, hf⟩
  · rw [e]; exact I.funs
  · rw [e]
    obtain ⟨m, hn, _⟩ := I.loc
    refine .cons (by rw [I.ok.kind]; decide) hf hn ?_ I.funs
    exact Heap.get?_none_of_le (Nat.le_trans I.ok.bsz I.ok.above)
theorem Inv.stkSub (I : Inv X pins σ H s) : ∀ b ∈ frs X.stack, b ∈ X.env.locals :: X.fs := fun b hb => by
  rcases I.ok.stk with e | ⟨e, hf⟩
  · rw [e] at hb; exact List.mem_cons_of_mem _ hb
  · rw [e] at hb
    unfold frs at hb
    rw [List.filterMap_cons, hf] at hb
    exact hb
theorem Inv.stkFree (I : Inv X pins σ H s) : ∀ b ∈ frs X.stack, H b = none := fun b hb => by
  rcases List.mem_cons.mp (I.stkSub b hb) with e | hb
  · rw [e]; exact I.free
  · obtain ⟨_, o, ho, _⟩ := I.ok.funs.mem hb
    exact I.base.free b o ho (I.ok.frf b hb) fun z => I.ok.exfs b z hb

/-- THE STEP: the untracked objects but the frame and the records at ch are kept (the callers' frames up to slots), the frame's map is kept, the new abstract heap is held -/
theorem Inv.step {g' : Array GenState} {t' : Nat} {d' : Drawn} {ch : List Addr} (I : Inv X pins σ H s)
    (hch : ∀ b ∈ ch, (b ∈ X.ex ∨ X.s₀.heap.objs.size ≤ b) ∧ b ≠ X.env.locals ∧ (∀ x c, X.env.cells.lookup x = some c → c ≠ b) ∧ ∀ p ∈ X.pn ++ pins, p.1 ≠ b)
    (keep : ∀ b o, b ≠ X.env.locals → b ∉ X.fs → b ∉ ch → s.heap.get? b = some o → H b = none → h'.get? b = some o)
    (slot : ∀ b o, b ≠ X.env.locals → b ∈ X.fs → b ∉ ch → s.heap.get? b = some o → H b = none → ∃ sl, h'.get? b = some { o with slots := sl }) (free : ∀ b o, b ∉ ch → s.heap.get? b = some o → H b = none → H' b = none)
    (there : ∀ b o, b ∉ ch → s.heap.get? b = some o → ∃ o', h'.get? b = some o')
    (tups : ∀ b xs, H b = some (.tup xs) → H' b = some (.tup xs)) (frzs : ∀ b o u, H b = some (.frz o u) → H' b = some (.frz o u)) (tbls : ∀ b ps, H b = some (.tbl ps) → ∃ more, H' b = some (.tbl (ps ++ more)))
    (ns : ∀ m, s.heap.Ns X.env.locals m → h'.Ns X.env.locals m) (hok : HOk X.prog X.w H' h') (hg : AllBare g') :
    Inv X pins σ H' { s with heap := h', gens := g', drawn := d', toks := t' } := by
  have neL : ∀ b o, X.s₀.heap.get? b = some o → b ≠ X.env.locals := fun b o e => Nat.ne_of_lt (Nat.lt_of_lt_of_le (Heap.lt_size e) I.ok.above)
  have neC : ∀ b o, X.s₀.heap.get? b = some o → b ∉ X.ex → b ∉ ch := fun b o e hx hb => by
    rcases (hch b hb).1 with z | z
    · exact hx z
    · exact absurd (Nat.lt_of_lt_of_le (Heap.lt_size e) z) (Nat.lt_irrefl _)
  have cellK : ∀ x c, X.env.cells.lookup x = some c → ∀ v, s.heap.IsCell c v → h'.IsCell c v := fun x c e v ⟨o, ho, hd⟩ => by
    have nch : c ∉ ch := fun z => (hch c z).2.2.1 x c e rfl
    by_cases hc : c ∈ X.fs
    · obtain ⟨sl, q⟩ := slot c o (I.cne x c e) hc nch ho (I.freeC x c e)
      exact ⟨_, q, hd⟩
    · exact ⟨o, keep c o (I.cne x c e) hc nch ho (I.freeC x c e), hd⟩
  refine ⟨I.ok, I.os, hg, ⟨fun b o e n hb hx => ?_, fun b o e n hb hx => ?_, fun b o e n hx => ?_, fun b o e hx => ?_, fun b xs e => tups b xs (I.base.tups b xs e), fun b o xs e => frzs b o xs (I.base.frzs b o xs e), fun b ps e => ?_⟩, ?_, fun x c e => ?_, ?_, fun x c e => ?_, fun p hp => ?_, hok, I.len⟩
  · exact keep b o (neL b o e) hb (neC b o e hx) (I.base.keep b o e n hb hx) (I.base.free b o e n hx)
  · obtain ⟨sl, e1⟩ := I.base.slot b o e n hb hx
    obtain ⟨sl', e2⟩ := slot b _ (neL b o e) hb (neC b o e hx) e1 (I.base.free b o e n hx)
    exact ⟨sl', e2⟩
  · obtain ⟨o', e1⟩ := I.base.there b o e hx
    exact free b o' (neC b o e hx) e1 (I.base.free b o e n hx)
  · obtain ⟨o', e1⟩ := I.base.there b o e hx
    exact there b o' (neC b o e hx) e1
  · obtain ⟨m1, e1⟩ := I.base.tbls b ps e
    obtain ⟨m2, e2⟩ := tbls b _ e1
    exact ⟨m1 ++ m2, by rw [e2, Array.append_assoc]⟩
  · obtain ⟨m, hn, hl⟩ := I.loc
    refine ⟨m, ns m hn, fun i x v e1 e2 e3 => ?_⟩
    obtain ⟨u, r, l⟩ := hl i x v e1 e2 e3
    refine ⟨u, r, ?_⟩
    rcases l with l | ⟨k, c, e, z⟩
    · exact .inl l
    · exact .inr ⟨k, c, e, cellK x c e _ z⟩
  · obtain ⟨v, z⟩ := I.cell x c e
    exact ⟨v, cellK x c e v z⟩
  · obtain ⟨m, ⟨o, _, _, ho, _⟩, _⟩ := I.loc
    exact free _ o (fun z => (hch _ z).2.1 rfl) ho I.free
  · obtain ⟨v, o, ho, hd⟩ := I.cell x c e
    exact free c o (fun z => (hch c z).2.2.1 x c e rfl) ho (I.freeC x c e)
  · obtain ⟨e, n, ne, nf, d⟩ := I.pin p hp
    have nch : p.1 ∉ ch := fun z => (hch p.1 z).2.2.2 p hp rfl
    exact ⟨keep p.1 p.2 ne nf nch e n, free p.1 p.2 nch e n, ne, nf, d⟩
/-- .. where the frame's own object is kept too -/
theorem Inv.un {t' : Nat} (I : Inv X pins σ H s) (u : Un X.fs [] H H' s.heap h') (hok : HOk X.prog X.w H' h') : Inv X pins σ H' { s with heap := h', toks := t' } := by
  obtain ⟨m, ⟨o, es, ep, ho, r⟩, _⟩ := id I.loc
  obtain ⟨sl, hL⟩ := u.any ho I.free (by simp)
  exact I.step (g' := s.gens) (d' := s.drawn) (ch := []) (fun _ z => nomatch z) (fun b o _ hb _ e n => u.keep b o e n hb (by simp)) (fun b o _ hb _ e n => u.slot b o e n hb (by simp)) (fun b o _ e n => u.free b o e n (by simp)) (fun b o _ e => u.there b o e (by simp)) u.tups u.frzs u.tbls (fun m' hm => by
    obtain ⟨o', es', ep', ho', r'⟩ := hm
    rw [ho] at ho'; cases ho'
    exact ⟨_, es', ep', hL, r'⟩) hok I.bare
/-- behind a call (or a comprehension's block): the slots of this frame may have changed too, the records at ch may have turned -/
theorem Inv.call {g' : Array GenState} {t' : Nat} {d' : Drawn} {ch : List Addr} (I : Inv X pins σ H s) (u : Un (frs X.stack) ch H H' s.heap h') (hok : HOk X.prog X.w H' h') (hg : AllBare g')
    (hch : ∀ b ∈ ch, (b ∈ X.ex ∨ X.s₀.heap.objs.size ≤ b) ∧ b ≠ X.env.locals ∧ (∀ x c, X.env.cells.lookup x = some c → c ≠ b) ∧ ∀ p ∈ X.pn ++ pins, p.1 ≠ b) :
    Inv X pins σ H' { s with heap := h', gens := g', drawn := d', toks := t' } := by
  obtain ⟨m, ⟨o, es, ep, ho, r⟩, _⟩ := id I.loc
  obtain ⟨sl, hL⟩ := u.any ho I.free fun z => (hch _ z).2.1 rfl
  exact I.step (ch := ch) hch (fun b o hL hb hc e n => u.keep b o e n (fun z => (List.mem_cons.mp (I.stkSub b z)).elim hL hb) hc) (fun b o _ _ hc e n => u.any e n hc) (fun b o hc e n => u.free b o e n hc) (fun b o hc e => u.there b o e hc) u.tups u.frzs u.tbls (fun m' hm => by
    obtain ⟨o', es', ep', ho', r'⟩ := hm
    rw [ho] at ho'; cases ho'
    exact ⟨_, es', ep', hL, r'⟩) hok hg
/-- an untracked record of ours (an iterator) has turned -/
theorem Inv.turned {t' : Nat} {it : Addr} (I : Inv X pins σ H s) (k : ∀ b o, b ≠ it → s.heap.get? b = some o → h'.get? b = some o) (hn : H it = none) (hL : it ≠ X.env.locals)
    (h1 : it ∈ X.ex ∨ X.s₀.heap.objs.size ≤ it) (h2 : ∀ x c, X.env.cells.lookup x = some c → c ≠ it) (h3 : ∀ p ∈ X.pn ++ pins, p.1 ≠ it) : Inv X pins σ H { s with heap := h', toks := t' } := by
  have nit : ∀ b u, H b = some u → b ≠ it := fun b u e z => by rw [z, hn] at e; cases e
  refine I.step (g' := s.gens) (d' := s.drawn) (ch := [it]) (fun b hb => ?_) (fun b o _ _ hc e _ => k b o (fun z => hc (by simp [z])) e) (fun b o _ _ hc e _ => ⟨o.slots, k b o (fun z => hc (by simp [z])) e⟩) (fun _ _ _ _ n => n)
    (fun b o hc e => ⟨o, k b o (fun z => hc (by simp [z])) e⟩) (fun _ _ e => e) (fun _ _ _ e => e) (fun b ps e => ⟨#[], by rw [e]; simp⟩) (fun m hm => ?_) (fun b u e => ?_) I.bare
  · have e : b = it := by simpa using hb
    subst e
    exact ⟨h1, hL, h2, h3⟩
  · obtain ⟨o, es, ep, ho, r⟩ := hm
    exact ⟨o, es, ep, k _ o (Ne.symm hL) ho, r⟩
  · refine (I.hok b u e).stay (fun c v hc q => k c v ?_ q) (fun _ q => q) fun _ _ q => q
    rcases hc with z | z
    · rw [z]; exact nit b u e
    · exact nit c _ z
theorem Inv.tok (I : Inv X pins σ H s) (t : Nat) : Inv X pins σ H { s with toks := t } := I.un (h' := s.heap) (t' := t) Un.refl I.hok
/-- all objects kept -/
theorem Inv.kept {t' : Nat} (I : Inv X pins σ H s) (k : ∀ b u, s.heap.get? b = some u → h'.get? b = some u) : Inv X pins σ H { s with heap := h', toks := t' } := I.un (Un.kept k) (I.hok.kept k)
/-- a new object laid and tracked -/
theorem Inv.laid {a : Addr} {o : HO} {t' : Nat} (I : Inv X pins σ H s) (k : ∀ b u, s.heap.get? b = some u → h'.get? b = some u) (hp : s.heap.objs.size ≤ a) (new : ObjOk X.prog X.w (upd H a o) h' a o) :
    Inv X pins σ (upd H a o) { s with heap := h', toks := t' } := I.un (Un.laid k hp (I.hok.fresh hp)) (I.hok.laid k hp new)
/-- an object written -/
theorem Inv.write {x e : Addr} {o : HO} {t' : Nat} (I : Inv X pins σ H s) (mu : Mut (H x)) (he : e = x ∨ H e = some (.own x)) (k : ∀ b u, b ≠ e → s.heap.get? b = some u → h'.get? b = some u) (heo : ∃ u, h'.get? e = some u)
    (new : ObjOk X.prog X.w (upd H x o) h' x o) : Inv X pins σ (upd H x o) { s with heap := h', toks := t' } := I.un (Un.write mu he k heo) (I.hok.write mu he k heo new)
/-- forgetting slots, pins -/
theorem Inv.weak {σ' : List (Option V)} (I : Inv X pins σ H s) (hl : σ'.length = σ.length) (w : ∀ (i : Nat) v, σ'[i]? = some (some v) → σ[i]? = some (some v)) : Inv X pins σ' H s :=
  ⟨I.ok, I.os, I.bare, I.base, let ⟨m, hn, hl'⟩ := I.loc; ⟨m, hn, fun i x v e1 e2 e3 => hl' i x v e1 (w i v e2) e3⟩, I.cell, I.free, I.freeC, I.pin, I.hok, hl.trans I.len⟩
theorem Inv.pins_of {pins' : List (Addr × Obj)} (I : Inv X pins σ H s) (h : ∀ p ∈ pins', s.heap.get? p.1 = some p.2 ∧ H p.1 = none ∧ p.1 ≠ X.env.locals ∧ p.1 ∉ X.fs ∧ ∀ v, p.2.data ≠ .cell v) : Inv X pins' σ H s :=
  ⟨I.ok, I.os, I.bare, I.base, I.loc, I.cell, I.free, I.freeC, fun p hp => (List.mem_append.mp hp).elim (fun z => I.pin p (List.mem_append_left _ z)) (h p), I.hok, I.len⟩

theorem nodup_ix {N : List Str} (hN : N.Nodup) {i j : Nat} {x : Str} (a : N[i]? = some x) (b : N[j]? = some x) : i = j := by
  obtain ⟨h1, e1⟩ := List.getElem?_eq_some_iff.mp a
  obtain ⟨h2, e2⟩ := List.getElem?_eq_some_iff.mp b
  exact (List.getElem_inj hN).mp (e1.trans e2.symm)

/-- a name is stored; what changed -/
theorem store_ok2 {M : Model} {A : Around} {E : Value → Shared → Prop} {i : Nat} {x : Str} {v : V} {u : Value} {Q : Unit → Shared → Prop} (I : Inv X pins σ H s) (hN : X.N.Nodup) (hi : X.N[i]? = some x) (hx : Loc X.env.scope x) (r : RelV v u)
    (h : ∀ s', Inv X pins (σ.set i (some v)) H s' → (∃ a, Heap.SameBut a s.heap s'.heap ∧ (a = X.env.locals ∨ X.env.cells.lookup x = some a)) → Q () s') (hf : X.fn x = true ∨ X.env.scope.names.lookup x = some .local := by first | exact .inl rfl | exact .inr rfl | assumption) : wpAny M A (storeName X.env x u) Q E s := by
  obtain ⟨m, hn, hl⟩ := id I.loc
  have hcls : (X.env.scope.kind == .class || (X.env.scope.kind == .module && X.env.locals != X.env.globals)) = false := by rw [I.ok.kind]; rfl
  have hiσ : i < σ.length := by rw [I.len]; exact (List.getElem?_eq_some_iff.mp hi).1
  have cne := I.cne
  have tracked : ∀ {a : Addr} {h' : Heap}, (∃ o, s.heap.get? a = some o ∧ H a = none) → Heap.SameBut a s.heap h' → HOk X.prog X.w H h' := fun {a h'} ha hs b ob e => by
    obtain ⟨_, _, hfree⟩ := ha
    refine (I.hok b ob e).stay (fun c w' hc q => (hs.2 c ?_).trans q) (fun _ q => q) fun _ _ q => q
    rintro rfl
    rcases hc with rfl | hc
    · rw [hfree] at e; cases e
    · rw [hfree] at hc; cases hc
  rcases hx with hk | hk
  · refine wpAny_storeName_local hk hn (fun h' hn' hs => ?_) hcls
    obtain ⟨oL, _, _, hoL, _⟩ := id hn
    refine h _ ⟨I.ok, I.os, I.bare, ⟨fun b o e n hb hx => ?_, fun b o e n hb hx => ?_, I.base.free, fun b o e hx => ?_, I.base.tups, I.base.frzs, I.base.tbls⟩, ⟨_, hn', fun j y v' e1 e2 e3 => ?_⟩, fun y c e => ?_, I.free, I.freeC, fun p hp => ?_, tracked ⟨oL, hoL, I.free⟩ hs, by simpa using I.len⟩ ⟨_, hs, .inl rfl⟩
    · exact (hs.2 b (Nat.ne_of_lt (Nat.lt_of_lt_of_le (Heap.lt_size e) I.ok.above))).trans (I.base.keep b o e n hb hx)
    · obtain ⟨sl, e1⟩ := I.base.slot b o e n hb hx
      exact ⟨sl, (hs.2 b (Nat.ne_of_lt (Nat.lt_of_lt_of_le (Heap.lt_size e) I.ok.above))).trans e1⟩
    · obtain ⟨o', e1⟩ := I.base.there b o e hx
      exact ⟨o', (hs.2 b (Nat.ne_of_lt (Nat.lt_of_lt_of_le (Heap.lt_size e) I.ok.above))).trans e1⟩
    · by_cases hj : j = i
      · subst hj
        rw [hi] at e1; cases e1
        rw [List.getElem?_set_self hiσ] at e2
        cases e2
        exact ⟨u, r, .inl ⟨hk, by simp⟩⟩
      · rw [List.getElem?_set_ne (Ne.symm hj)] at e2
        obtain ⟨u', r', q⟩ := hl j y v' e1 e2 e3
        refine ⟨u', r', ?_⟩
        rcases q with ⟨k, e⟩ | ⟨k, c, e, z⟩
        · refine .inl ⟨k, ?_⟩
          have : y ≠ x := fun e => hj (nodup_ix hN e1 (e ▸ hi))
          simp [this, e]
        · exact .inr ⟨k, c, e, z.sameBut hs (cne y c e)⟩
    · obtain ⟨w', z⟩ := I.cell y c e
      exact ⟨w', z.sameBut hs (cne y c e)⟩
    · obtain ⟨e, n, ne, nf, d⟩ := I.pin p hp
      exact ⟨(hs.2 p.1 ne).trans e, n, ne, nf, d⟩
  · have hfn : X.fn x = true := by
      rcases hf with z | z
      · exact z
      · rw [z] at hk; cases hk
    obtain ⟨c, hc⟩ := I.ok.has x (.inl hk)
    obtain ⟨w', z⟩ := I.cell x c hc
    refine wpAny_storeName_cell I.ok.kind hk hc z (fun h' hc' hs => ?_)
    obtain ⟨oc, hoc, hocd⟩ := id z
    refine h { s with heap := h' } ⟨I.ok, I.os, I.bare, ⟨fun b o e n hb hx => ?_, fun b o e n hb hx => ?_, I.base.free, fun b o e hx => ?_, I.base.tups, I.base.frzs, I.base.tbls⟩, ⟨m, hn.sameBut hs (Ne.symm (cne x c hc)), fun j y v' e1 e2 e3 => ?_⟩, fun y c' e => ?_, I.free, I.freeC, fun p hp => ?_, tracked ⟨oc, hoc, I.freeC x c hc⟩ hs, by simpa using I.len⟩ ⟨c, hs, .inr hc⟩
    · exact (hs.2 b (Nat.ne_of_lt (Nat.lt_of_lt_of_le (Heap.lt_size e) (I.ok.cab x c hfn hc)))).trans (I.base.keep b o e n hb hx)
    · obtain ⟨sl, e1⟩ := I.base.slot b o e n hb hx
      exact ⟨sl, (hs.2 b (Nat.ne_of_lt (Nat.lt_of_lt_of_le (Heap.lt_size e) (I.ok.cab x c hfn hc)))).trans e1⟩
    · obtain ⟨o', e1⟩ := I.base.there b o e hx
      exact ⟨o', (hs.2 b (Nat.ne_of_lt (Nat.lt_of_lt_of_le (Heap.lt_size e) (I.ok.cab x c hfn hc)))).trans e1⟩
    · by_cases hj : j = i
      · subst hj
        rw [hi] at e1; cases e1
        rw [List.getElem?_set_self hiσ] at e2
        cases e2
        exact ⟨u, r, .inr ⟨.inl hk, c, hc, hc'⟩⟩
      · rw [List.getElem?_set_ne (Ne.symm hj)] at e2
        obtain ⟨u', r', q⟩ := hl j y v' e1 e2 e3
        refine ⟨u', r', ?_⟩
        rcases q with q | ⟨k, c', e, z'⟩
        · exact .inl q
        · refine .inr ⟨k, c', e, z'.sameBut hs ?_⟩
          rintro rfl
          exact hj (nodup_ix hN e1 (I.ok.inj _ _ _ e hc ▸ hi))
    · by_cases hcc : c' = c
      · subst hcc; exact ⟨_, hc'⟩
      · obtain ⟨w2, z2⟩ := I.cell y c' e
        exact ⟨w2, z2.sameBut hs hcc⟩
    · obtain ⟨e, n, ne, nf, d⟩ := I.pin p hp
      refine ⟨(hs.2 p.1 ?_).trans e, n, ne, nf, d⟩
      intro q
      rw [q, hoc] at e
      have q' : oc = p.2 := Option.some.inj e
      exact d w' (by rw [← q']; exact hocd)
theorem store_ok {M : Model} {A : Around} {E : Value → Shared → Prop} {i : Nat} {x : Str} {v : V} {u : Value} {Q : Unit → Shared → Prop} (I : Inv X pins σ H s) (hN : X.N.Nodup) (hi : X.N[i]? = some x) (hx : Loc X.env.scope x) (r : RelV v u)
    (h : ∀ s', Inv X pins (σ.set i (some v)) H s' → Q () s') (hf : X.fn x = true ∨ X.env.scope.names.lookup x = some .local := by first | exact .inl rfl | exact .inr rfl | assumption) : wpAny M A (storeName X.env x u) Q E s :=
  store_ok2 I hN hi hx r (fun s' I' _ => h s' I') hf
/-- behind a call or a block, the state as it is -/
theorem Inv.call' {s' : Shared} {ch : List Addr} (I : Inv X pins σ H s) (ho : s'.os = s.os) (u : Un (frs X.stack) ch H H' s.heap s'.heap) (hok : HOk X.prog X.w H' s'.heap) (hg : AllBare s'.gens)
    (hch : ∀ b ∈ ch, (b ∈ X.ex ∨ X.s₀.heap.objs.size ≤ b) ∧ b ≠ X.env.locals ∧ (∀ x c, X.env.cells.lookup x = some c → c ≠ b) ∧ ∀ p ∈ X.pn ++ pins, p.1 ≠ b) : Inv X pins σ H' s' := by
  obtain ⟨h', g', d', t', o'⟩ := s'
  have e : o' = s.os := ho
  subst e
  exact I.call (g' := g') (t' := t') (d' := d') u hok hg hch
end

/-! ### the judgements -/
/-- an exception: its class, its own dict's address (where it has one), the abstract heap behind it -/
abbrev XK := Value → Option Addr → Hp → Prop
abbrev St := List (Option V)
abbrev VK := V → Hp → Prop
/-- an expression's reading; a test's; an argument list's -/
abbrev TE := St → Hp → VK → Prop
abbrev TT := St → Hp → (Bool → Hp → Prop) → Prop
abbrev TA := St → Hp → (List V → Hp → Prop) → Prop
/-- what is wanted behind a statement -/
structure Ends where
  nx : St → Hp → Prop
  rt : VK
  bk : St → Hp → Prop := fun _ _ => False
  ct : St → Hp → Prop := fun _ _ => False
abbrev TS := Ends → St → Hp → Prop

def EP (X : Cx) (pins : List (Addr × Obj)) (σ : St) (Q : VK) (u : Value) (s' : Shared) : Prop := ∃ v H', Inv X pins σ H' s' ∧ RelV v u ∧ Q v H'
def TP (X : Cx) (pins : List (Addr × Obj)) (σ : St) (Q : Bool → Hp → Prop) (b : Bool) (s' : Shared) : Prop := ∃ H', Inv X pins σ H' s' ∧ Q b H'
def AP (X : Cx) (pins : List (Addr × Obj)) (σ : St) (Q : List V → Hp → Prop) (us : List Value) (s' : Shared) : Prop := ∃ vs H', Inv X pins σ H' s' ∧ Vals vs us ∧ Q vs H'
def SP (X : Cx) (pins : List (Addr × Obj)) (D : Ends) (f : Flow) (s' : Shared) : Prop :=
  match f with
  | .next => ∃ σ' H', Inv X pins σ' H' s' ∧ D.nx σ' H'
  | .brk => ∃ σ' H', Inv X pins σ' H' s' ∧ D.bk σ' H'
  | .cont => ∃ σ' H', Inv X pins σ' H' s' ∧ D.ct σ' H'
  | .ret u => ∃ v σ' H', Inv X pins σ' H' s' ∧ RelV v u ∧ D.rt v H'

def PE (X : Cx) (e : Expr) (t : TE) : Prop :=
  ∀ (pins : List (Addr × Obj)) (s : Shared) (σ : St) (H : Hp) (Q : VK), Inv X pins σ H s → t σ H Q → wpAny (model X.prog X.w) X.A (eval e X.env) (EP X pins σ Q) X.xe s
def PT (X : Cx) (e : Expr) (t : TT) : Prop :=
  ∀ (pins : List (Addr × Obj)) (s : Shared) (σ : St) (H : Hp) (Q : Bool → Hp → Prop), Inv X pins σ H s → t σ H Q → wpAny (model X.prog X.w) X.A (isTrue e X.env (eval e X.env)) (TP X pins σ Q) X.xe s
/-- a test whatever its 'whole' is (and, or) -/
def PW (X : Cx) (e : Expr) (t : TT) : Prop :=
  ∀ (whole : Sem Value) (pins : List (Addr × Obj)) (s : Shared) (σ : St) (H : Hp) (Q : Bool → Hp → Prop), Inv X pins σ H s → t σ H Q → wpAny (model X.prog X.w) X.A (isTrue e X.env whole) (TP X pins σ Q) X.xe s
theorem PW.pt {X : Cx} {e : Expr} {t : TT} (h : PW X e t) : PT X e t := h _
/-- an argument list (no star), from the left -/
def PA (X : Cx) (es : List Expr) (t : TA) : Prop :=
  ∀ (pos : Pos) (pins : List (Addr × Obj)) (s : Shared) (σ : St) (H : Hp) (Q : List V → Hp → Prop), Inv X pins σ H s → t σ H Q → wpAny (model X.prog X.w) X.A (spliced (backTo pos (starEach es X.env))) (AP X pins σ Q) X.xe s
def PS (X : Cx) (st : Stmt) (t : TS) : Prop :=
  ∀ (pins : List (Addr × Obj)) (s : Shared) (σ : St) (H : Hp) (D : Ends), Inv X pins σ H s → t D σ H → wpAny (model X.prog X.w) X.A (exec st X.env) (SP X pins D) X.xe s
def PSs (X : Cx) (st : List Stmt) (t : TS) : Prop :=
  ∀ (pins : List (Addr × Obj)) (s : Shared) (σ : St) (H : Hp) (D : Ends), Inv X pins σ H s → t D σ H → wpAny (model X.prog X.w) X.A (execs st X.env) (SP X pins D) X.xe s
/-- weaken the end -/
theorem thn {α : Type} {t : Sem α} {Q Q' : α → Shared → Prop} {M : Model} {A : Around} {E : Value → Shared → Prop} {s : Shared} (h : wpAny M A t Q E s) (hQ : ∀ a s, Q a s → Q' a s) : wpAny M A t Q' E s := wpAny_mono h hQ fun _ _ x => x
end L2

namespace L2
open PySem PySem.Spec PyProof.Rows
section
variable {X : Cx}

/-- two expressions in a row -/
theorem bin {a b : Expr} {ta tb : TE} (ha : PE X a ta) (hb : PE X b tb) {pins : List (Addr × Obj)} {s : Shared} {σ : St} {H : Hp} {R : V → V → Hp → Prop} (I : Inv X pins σ H s) (h : ta σ H fun x H1 => tb σ H1 fun y H2 => R x y H2)
    {α : Type} {Q : α → Shared → Prop} {f : Value → Value → Sem α}
    (hf : ∀ v u s2 x y H2, Inv X pins σ H2 s2 → RelV x v → RelV y u → R x y H2 → wpAny (model X.prog X.w) X.A (f v u) Q X.xe s2) :
    wpAny (model X.prog X.w) X.A (eval a X.env) (fun v s₁ => wpAny (model X.prog X.w) X.A (eval b X.env) (fun u s₂ => wpAny (model X.prog X.w) X.A (f v u) Q X.xe s₂) X.xe s₁) X.xe s := by
  refine thn (ha pins s σ H _ I h) fun v s1 ⟨x, H1, I1, r1, q1⟩ => ?_
  refine thn (hb pins s1 σ H1 _ I1 q1) fun u s2 ⟨y, H2, I2, r2, q2⟩ => ?_
  exact hf v u s2 x y H2 I2 r1 r2 q2

/-! ### names and constants -/
def tVar (i : Nat) : TE := fun σ H Q => ∃ v, σ[i]? = some (some v) ∧ Q v H
def tC (v : V) : TE := fun _ H Q => Q v H
theorem pe_var {i : Nat} {x : Str} {pos : Pos} (hN : X.N[i]? = some x) (hv : Vis X.env.scope x) (hd : (x == ("__debug__" : Str)) = false := by decide) (hcd : (x == ("__classdict__" : Str)) = false := by decide) : PE X (.Name x pos) (tVar i) := by
  intro pins s σ H Q I h
  obtain ⟨v, e, h⟩ := h
  obtain ⟨m, hn, hl⟩ := I.loc
  obtain ⟨u, r, l⟩ := hl i x v hN e hv
  have fin : EP X pins σ Q u s := ⟨v, H, I, r, h⟩
  rcases l with ⟨hk, hm⟩ | ⟨hk, c, hc, hcell⟩
  · exact wpAny_Name (wpAny_loadName_local I.ok.kind hk hn hm fin) hd
  · rcases hk with hk | hk
    · exact wpAny_Name (wpAny_loadName_cell I.ok.kind hk hc hcell fin) hd
    · exact wpAny_Name (wpAny_loadName_free I.ok.kind hk hc hcell fin hcd) hd
theorem pe_int {i j pos} : PE X (.Constant (.int i) j pos) (tC (.int i)) := fun _ _ _ H _ I h => wpAny_Constant_int ⟨.int i, H, I.tok _, ⟨_, rfl⟩, h⟩
theorem pe_bl {b j pos} : PE X (.Constant (.bool b) j pos) (tC (.bl b)) := fun _ _ _ H _ I h => Constant_bool ⟨.bl b, H, I, rfl, h⟩
theorem pe_non {j pos} : PE X (.Constant .none j pos) (tC .non) := fun _ _ _ H _ I h => Constant_none ⟨.non, H, I, rfl, h⟩
theorem pe_str {x j pos} : PE X (.Constant (.str x) j pos) (tC (.str x)) := fun _ _ _ H _ I h => Calls.Constant_str ⟨.str x, H, I.tok _, ⟨_, rfl⟩, h⟩

/-- a global name of the def -/
def Gl (X : Cx) (x : Str) : Prop := X.env.kindOf x = some .globalImplicit
theorem ld_glob {E : Value → Shared → Prop} {pins : List (Addr × Obj)} {s : Shared} {σ : St} {H : Hp} {x : Str} {u : Value} {pos : Pos} {Q : Value → Shared → Prop} (I : Inv X pins σ H s) (hg : Gl X x) (hm : X.mg x = some u) (h : Q u s)
    (hd : (x == ("__debug__" : Str)) = false := by decide) : wpAny (model X.prog X.w) X.A (eval (.Name x pos) X.env) Q E s :=
  Calls.Name_function_global I.ok.kind hg (Calls.loadGlobal_global (by rw [I.ok.glob]; exact I.mod.glob.keeps I.bk) hm h) hd
theorem ld_blt {E : Value → Shared → Prop} {pins : List (Addr × Obj)} {s : Shared} {σ : St} {H : Hp} {x : Str} {u : Value} {pos : Pos} {Q : Value → Shared → Prop} (I : Inv X pins σ H s) (hg : Gl X x) (hm : X.mg x = none) (hv : bootBuiltins x = some u) (h : Q u s)
    (hn : x ≠ "__name__" := by decide) (hd : (x == ("__debug__" : Str)) = false := by decide) : wpAny (model X.prog X.w) X.A (eval (.Name x pos) X.env) Q E s := by
  obtain ⟨mb, h1, h2⟩ := I.mod.blt
  exact Calls.Name_function_global I.ok.kind hg (Calls.loadGlobal_builtin (by rw [I.ok.glob]; exact I.mod.glob.keeps I.bk) hm (by rw [I.ok.blt]; exact h1.keeps I.bk) ((h2 x hn).trans hv) h) hd
/-- a module's constant, a class, a function, as a value -/
theorem pe_glob {x : Str} {v : V} {u : Value} {pos : Pos} (hg : Gl X x) (hm : X.mg x = some u) (r : RelV v u) (hd : (x == ("__debug__" : Str)) = false := by decide) : PE X (.Name x pos) (tC v) :=
  fun _ _ _ H _ I h => ld_glob I hg hm ⟨v, H, I, r, h⟩ hd
theorem pe_bltn {x : Str} {v : V} {u : Value} {pos : Pos} (hg : Gl X x) (hm : X.mg x = none) (hv : bootBuiltins x = some u) (r : RelV v u) (hn : x ≠ "__name__" := by decide) (hd : (x == ("__debug__" : Str)) = false := by decide) : PE X (.Name x pos) (tC v) :=
  fun _ _ _ H _ I h => ld_blt I hg hm hv ⟨v, H, I, r, h⟩ hn hd

/-! ### arithmetic -/
/-- two ints -/
def t2I (ta tb : TE) (k : Int → Int → Hp → Prop) : St → Hp → Prop := fun σ H => ta σ H fun x H1 => tb σ H1 fun y H2 => ∃ i j, x = .int i ∧ y = .int j ∧ k i j H2
def tAdd (ta tb : TE) : TE := fun σ H Q => t2I ta tb (fun i j H2 => Q (.int (i + j)) H2) σ H
def tSub (ta tb : TE) : TE := fun σ H Q => t2I ta tb (fun i j H2 => Q (.int (i - j)) H2) σ H
/-- the left factor below 2^64 -/
def tMul (ta tb : TE) : TE := fun σ H Q => t2I ta tb (fun i j H2 => (-(2 ^ 64) < i ∧ i < 2 ^ 64) ∧ Q (.int (i * j)) H2) σ H
variable {a b : Expr} {ta tb : TE} {pos : Pos}
theorem pe_add (ha : PE X a ta) (hb : PE X b tb) : PE X (.BinOp a .Add b pos) (tAdd ta tb) := by
  intro pins s σ H Q I h
  refine wpAny_BinOp (bin ha hb I h fun v u s2 x y H2 I2 rx ry q => ?_)
  obtain ⟨i, j, rfl, rfl, q⟩ := q
  obtain ⟨t, rfl⟩ := rx
  obtain ⟨t', rfl⟩ := ry
  exact add_int ⟨.int _, H2, I2.tok _, ⟨_, rfl⟩, q⟩
theorem pe_sub (ha : PE X a ta) (hb : PE X b tb) : PE X (.BinOp a .Sub b pos) (tSub ta tb) := by
  intro pins s σ H Q I h
  refine wpAny_BinOp (bin ha hb I h fun v u s2 x y H2 I2 rx ry q => ?_)
  obtain ⟨i, j, rfl, rfl, q⟩ := q
  obtain ⟨t, rfl⟩ := rx
  obtain ⟨t', rfl⟩ := ry
  exact sub_int ⟨.int _, H2, I2.tok _, ⟨_, rfl⟩, q⟩
theorem pe_mul (ha : PE X a ta) (hb : PE X b tb) : PE X (.BinOp a .Mult b pos) (tMul ta tb) := by
  intro pins s σ H Q I h
  refine wpAny_BinOp (bin ha hb I h fun v u s2 x y H2 I2 rx ry q => ?_)
  obtain ⟨i, j, rfl, rfl, ⟨q1, q2⟩, q⟩ := q
  obtain ⟨t, rfl⟩ := rx
  obtain ⟨t', rfl⟩ := ry
  exact mul_int ⟨.int _, H2, I2.tok _, ⟨_, rfl⟩, q⟩ (.of_left (intBits_le_64 q1 q2))

/-! ### comparisons -/
def PC (X : Cx) (op : CmpOp) (a b : Expr) (t : TE) : Prop :=
  ∀ (pins : List (Addr × Obj)) (s : Shared) (σ : St) (H : Hp) (Q : VK), Inv X pins σ H s → t σ H Q →
    wpAny (model X.prog X.w) X.A (eval a X.env) (fun v s₁ => wpAny (model X.prog X.w) X.A (eval b X.env) (fun u s₂ => wpAny (model X.prog X.w) X.A (compareOp op v u) (EP X pins σ Q) X.xe s₂) X.xe s₁) X.xe s
theorem nobehind (b : Expr) {op : CmpOp} (h : op ≠ .In) (h2 : op ≠ .NotIn) : behindInMarks op b = false := by
  have e1 : (op == CmpOp.In) = false := by cases op <;> first | rfl | exact absurd rfl h
  have e2 : (op == CmpOp.NotIn) = false := by cases op <;> first | rfl | exact absurd rfl h2
  cases b <;> simp [behindInMarks, e1, e2]
def tCmp (p : Int → Int → Bool) (ta tb : TE) : TE := fun σ H Q => t2I ta tb (fun i j H2 => Q (.bl (p i j)) H2) σ H
abbrev tLt : TE → TE → TE := tCmp fun i j => decide (i < j)
abbrev tLe : TE → TE → TE := tCmp fun i j => decide (i ≤ j)
abbrev tGt : TE → TE → TE := tCmp fun i j => decide (j < i)
abbrev tGe : TE → TE → TE := tCmp fun i j => decide (j ≤ i)
abbrev tEqI : TE → TE → TE := tCmp fun i j => decide (i = j)
abbrev tNeI : TE → TE → TE := tCmp fun i j => !decide (i = j)
/-- a comparison of two ints, by its rule -/
theorem pc_int {op : CmpOp} {p : Int → Int → Bool} (ha : PE X a ta) (hb : PE X b tb)
    (rule : ∀ (i j : Int) (t u : Tok) (Q : Value → Shared → Prop) (s : Shared), Q (.bool (p i j)) s → wpAny (model X.prog X.w) X.A (compareOp op (.int i t) (.int j u)) Q X.xe s) : PC X op a b (tCmp p ta tb) := by
  intro pins s σ H Q I h
  refine bin ha hb I h fun v u s2 x y H2 I2 rx ry q => ?_
  obtain ⟨i, j, rfl, rfl, q⟩ := q
  obtain ⟨t, rfl⟩ := rx
  obtain ⟨t', rfl⟩ := ry
  exact rule i j t t' _ s2 ⟨.bl _, H2, I2, rfl, q⟩
theorem pc_lt (ha : PE X a ta) (hb : PE X b tb) : PC X .Lt a b (tLt ta tb) := pc_int ha hb fun _ _ _ _ _ _ h => lt_int h
theorem pc_le (ha : PE X a ta) (hb : PE X b tb) : PC X .LtE a b (tLe ta tb) := pc_int ha hb fun _ _ _ _ _ _ h => le_int h
theorem pc_gt (ha : PE X a ta) (hb : PE X b tb) : PC X .Gt a b (tGt ta tb) := pc_int ha hb fun _ _ _ _ _ _ h => gt_int h
theorem pc_ge (ha : PE X a ta) (hb : PE X b tb) : PC X .GtE a b (tGe ta tb) := pc_int ha hb fun _ _ _ _ _ _ h => ge_int h
theorem pc_eqI (ha : PE X a ta) (hb : PE X b tb) : PC X .Eq a b (tEqI ta tb) := pc_int ha hb fun _ _ _ _ _ _ h => eq_int (by rw [Bool.beq_eq_decide_eq]; exact h)
theorem pc_neI (ha : PE X a ta) (hb : PE X b tb) : PC X .NotEq a b (tNeI ta tb) := pc_int ha hb fun _ _ _ _ _ _ h => ne_int (by rw [bne, Bool.beq_eq_decide_eq]; exact h)
/-- is None -/
def tIsN (ta : TE) : TE := fun σ H Q => ta σ H fun x H1 => Q (.bl (decide (x = .non))) H1
def tNotN (ta : TE) : TE := fun σ H Q => ta σ H fun x H1 => Q (.bl (!decide (x = .non))) H1
theorem RelV.none_iff {x : V} {v : Value} (r : RelV x v) : (v == Value.none) = decide (x = .non) := by
  cases x with
  | non => cases r; rfl
  | bl _ => cases r; rfl
  | int _ => obtain ⟨t, rfl⟩ := r; rfl
  | str _ => obtain ⟨t, rfl⟩ := r; rfl
  | byt _ => obtain ⟨t, rfl⟩ := r; rfl
  | flt _ => obtain ⟨t, rfl⟩ := r; rfl
  | ref _ => cases r; rfl
  | ty _ => cases r; rfl
theorem pc_isN {j pos'} (ha : PE X a ta) : PC X .Is a (.Constant .none j pos') (tIsN ta) := by
  intro pins s σ H Q I h
  refine thn (ha pins s σ H _ I h) fun v s1 ⟨x, H1, I1, r1, q1⟩ => ?_
  exact Constant_none (is_none_gen ⟨.bl _, H1, I1, by rw [r1.none_iff]; rfl, q1⟩)
theorem pc_notN {j pos'} (ha : PE X a ta) : PC X .IsNot a (.Constant .none j pos') (tNotN ta) := by
  intro pins s σ H Q I h
  refine thn (ha pins s σ H _ I h) fun v s1 ⟨x, H1, I1, r1, q1⟩ => ?_
  exact Constant_none (isnot_none_gen ⟨.bl _, H1, I1, by rw [r1.none_iff]; rfl, q1⟩)
/-- a comparison as a value, as a test -/
def tB (t : TE) : TT := fun σ H Q => t σ H fun x H1 => ∃ c, x = .bl c ∧ Q c H1
theorem pe_cmp {op : CmpOp} {t : TE} (h : PC X op a b t) (h1 : behindInMarks op b = false := by first | exact nobehind _ (by decide) (by decide) | rfl) : PE X (.Compare a [op] [b] pos) t := fun pins s σ H Q I hw => wpAny_Compare1 (h pins s σ H Q I hw) h1
theorem pt_cmp {op : CmpOp} {t : TE} (h : PC X op a b t) (h1 : behindInMarks op b = false := by first | exact nobehind _ (by decide) (by decide) | rfl) : PT X (.Compare a [op] [b] pos) (tB t) := by
  intro pins s σ H Q I hw
  refine wpAny_isTrue_Compare1 (thn (h pins s σ H _ I hw) fun v s1 h1 => thn h1 fun u s2 h2 => thn h2 fun c s3 ⟨x, H1, I1, r1, q1⟩ => ?_) h1
  obtain ⟨d, rfl, q⟩ := q1
  cases r1
  exact wpAny_truthy_bool ⟨H1, I1, q⟩
/-- an expression whose value is a bool, as a test -/
theorem pt_val {e : Expr} {t : TE} (h : PE X e t) (he : ∀ whole, isTrue e X.env whole = (do let v ← whole; standAt e.pos; holding [v] (truthy v)) := by intro _; rfl) : PT X e (tB t) := by
  intro pins s σ H Q I hw
  refine isTrue_plain (thn (h pins s σ H _ I hw) fun v s1 ⟨x, H1, I1, r1, q1⟩ => ?_) (he _)
  obtain ⟨d, rfl, q⟩ := q1
  cases r1
  exact wpAny_truthy_bool ⟨H1, I1, q⟩

/-! ### and, or, not -/
variable {tA tB' : TT} {rest : List Expr}
def tAnd (t u : TT) : TT := fun σ H Q => t σ H fun c H1 => if c = true then u σ H1 Q else Q false H1
def tOr (t u : TT) : TT := fun σ H Q => t σ H fun c H1 => if c = true then Q true H1 else u σ H1 Q
def tNot (t : TT) : TT := fun σ H Q => t σ H fun c H1 => Q (!c) H1
theorem pw_and1 (ha : PT X a tA) : PW X (.BoolOp .And [a] pos) tA := by
  intro wh pins s σ H Q I h
  refine isTrue_and (thn (ha pins s σ H Q I h) fun c s1 e => ?_)
  cases c with
  | true => exact isTrue_and_nil e
  | false => exact e
theorem pw_or1 (ha : PT X a tA) : PW X (.BoolOp .Or [a] pos) tA := by
  intro wh pins s σ H Q I h
  refine isTrue_or (thn (ha pins s σ H Q I h) fun c s1 e => ?_)
  cases c with
  | false => exact isTrue_or_nil e
  | true => exact e
theorem pw_and (ha : PT X a tA) (hb : PW X (.BoolOp .And (b :: rest) pos) tB') : PW X (.BoolOp .And (a :: b :: rest) pos) (tAnd tA tB') := by
  intro wh pins s σ H Q I h
  refine isTrue_and (thn (ha pins s σ H _ I h) fun c s1 ⟨H1, I1, q1⟩ => ?_)
  cases c with
  | true => exact hb wh pins s1 σ H1 Q I1 q1
  | false => exact ⟨H1, I1, q1⟩
theorem pw_or (ha : PT X a tA) (hb : PW X (.BoolOp .Or (b :: rest) pos) tB') : PW X (.BoolOp .Or (a :: b :: rest) pos) (tOr tA tB') := by
  intro wh pins s σ H Q I h
  refine isTrue_or (thn (ha pins s σ H _ I h) fun c s1 ⟨H1, I1, q1⟩ => ?_)
  cases c with
  | true => exact ⟨H1, I1, q1⟩
  | false => exact hb wh pins s1 σ H1 Q I1 q1
theorem pt_not (ha : PT X a tA) : PT X (.UnaryOp .Not a pos) (tNot tA) := by
  intro pins s σ H Q I h
  exact isTrue_not (ha pins s σ H (fun c H1 => Q (!c) H1) I h)
/-- .. as values (bools) -/
def tAndV (ta tb : TE) : TE := fun σ H Q => ta σ H fun x H1 => ∃ c, x = .bl c ∧ if c = true then tb σ H1 Q else Q (.bl false) H1
def tOrV (ta tb : TE) : TE := fun σ H Q => ta σ H fun x H1 => ∃ c, x = .bl c ∧ if c = true then Q (.bl true) H1 else tb σ H1 Q
def tNotV (ta : TE) : TE := fun σ H Q => ta σ H fun x H1 => ∃ c, x = .bl c ∧ Q (.bl (!c)) H1
theorem pe_one {op} {t : TE} (h : PE X a t) : PE X (.BoolOp op [a] pos) t := fun pins s σ H Q I hw => BoolOp_one (h pins s σ H Q I hw)
theorem pe_and (ha : PE X a ta) (hb : PE X (.BoolOp .And (b :: rest) pos) tb) : PE X (.BoolOp .And (a :: b :: rest) pos) (tAndV ta tb) := by
  intro pins s σ H Q I h
  refine BoolOp_and (thn (ha pins s σ H _ I h) fun v s1 ⟨x, H1, I1, r1, q1⟩ => ?_)
  obtain ⟨c, rfl, q1⟩ := q1
  cases r1
  refine wpAny_truthy_bool ?_
  cases c with
  | true => exact hb pins s1 σ H1 Q I1 q1
  | false => exact ⟨.bl false, H1, I1, rfl, q1⟩
theorem pe_or (ha : PE X a ta) (hb : PE X (.BoolOp .Or (b :: rest) pos) tb) : PE X (.BoolOp .Or (a :: b :: rest) pos) (tOrV ta tb) := by
  intro pins s σ H Q I h
  refine BoolOp_or (thn (ha pins s σ H _ I h) fun v s1 ⟨x, H1, I1, r1, q1⟩ => ?_)
  obtain ⟨c, rfl, q1⟩ := q1
  cases r1
  refine wpAny_truthy_bool ?_
  cases c with
  | false => exact hb pins s1 σ H1 Q I1 q1
  | true => exact ⟨.bl true, H1, I1, rfl, q1⟩
theorem pe_not (ha : PE X a ta) : PE X (.UnaryOp .Not a pos) (tNotV ta) := by
  intro pins s σ H Q I h
  refine UnaryOp_ (thn (ha pins s σ H _ I h) fun v s1 ⟨x, H1, I1, r1, q1⟩ => ?_)
  obtain ⟨c, rfl, q1⟩ := q1
  cases r1
  exact not_of (wpAny_truthy_bool ⟨.bl (!c), H1, I1, rfl, q1⟩)
/-- a if t else b -/
def tIf (t : TT) (ta tb : TE) : TE := fun σ H Q => t σ H fun c H1 => if c = true then ta σ H1 Q else tb σ H1 Q
theorem pe_ifExp {c : Expr} (hc : PT X c tA) (ha : PE X a ta) (hb : PE X b tb) : PE X (.IfExp c a b pos) (tIf tA ta tb) := by
  intro pins s σ H Q I h
  refine wpAny_IfExp (thn (hc pins s σ H _ I h) fun d s1 ⟨H1, I1, q1⟩ => ?_)
  cases d with
  | true => exact ha pins s1 σ H1 Q I1 q1
  | false => exact hb pins s1 σ H1 Q I1 q1
end
end L2

namespace L2
open PySem PySem.Spec PyProof.Rows

/-! ### a list, a tuple that is read: tracked, frozen, or an object of the module -/
def SqL (K : PySem.W.Frag) (H : Hp) (a : Addr) (xs : List V) : Prop :=
  Rd H a (.lst xs) ∨
    ∃ (o : Obj) (its : Array Value) (n : Nat), K.lookup a = some o ∧ o.cls = .type "list" ∧ o.dict = none ∧ o.data = .seq its n ∧ its.size ≤ sizeLine ∧ Vals xs its.toList
def SqT (K : PySem.W.Frag) (H : Hp) (a : Addr) (xs : List V) : Prop :=
  Rd H a (.tup xs) ∨
    ∃ (o : Obj) (its : Array Value) (n : Nat), K.lookup a = some o ∧ o.cls = .type "tuple" ∧ o.data = .seq its n ∧ its.size ≤ sizeLine ∧ Vals xs its.toList
def absV : Value → Option V
  | .none => some .non
  | .bool b => some (.bl b)
  | .int i _ => some (.int i)
  | .str x _ => some (.str x)
  | .bytes b _ => some (.byt b)
  | .float b _ => some (.flt b)
  | .ref a => some (.ref a)
  | .type n => some (.ty n)
  | _ => none
theorem RelV.abs {x : V} {u : Value} (r : RelV x u) : absV u = some x := by
  cases x with
  | non => cases r; rfl
  | bl _ => cases r; rfl
  | int _ => obtain ⟨t, rfl⟩ := r; rfl
  | str _ => obtain ⟨t, rfl⟩ := r; rfl
  | byt _ => obtain ⟨t, rfl⟩ := r; rfl
  | flt _ => obtain ⟨t, rfl⟩ := r; rfl
  | ref _ => cases r; rfl
  | ty _ => cases r; rfl
theorem RelV.inj {x y : V} {u : Value} (r : RelV x u) (q : RelV y u) : x = y := Option.some.inj (r.abs.symm.trans q.abs)
theorem Vals.inj : ∀ {xs ys : List V} {us : List Value}, Vals xs us → Vals ys us → xs = ys
  | _, _, _, .nil, .nil => rfl
  | _, _, _, .cons r t, .cons r' t' => by rw [r.inj r', Vals.inj t t']
section
variable {X : Cx} {pins : List (Addr × Obj)} {σ : St} {H : Hp} {s : Shared} {a : Addr} {xs ys : List V}
theorem SqL.of {K : PySem.W.Frag} (h : H a = some (.lst xs)) : SqL K H a xs := .inl (.inl h)
theorem SqT.of {K : PySem.W.Frag} (h : H a = some (.tup xs)) : SqT K H a xs := .inl (.inl h)
theorem Inv.list (I : Inv X pins σ H s) (h : SqL X.K H a xs) : ∃ its : List Value, Vals xs its ∧ PlainL s.heap a its.toArray ∧ xs.length ≤ sizeLine := by
  rcases h with h | ⟨o, its, n, hk, hc, hd, hs, hz, r⟩
  · obtain ⟨z, its, n, r, e⟩ := h.ok I.hok
    exact ⟨its, r, ⟨_, n, e, rfl, rfl, rfl⟩, z⟩
  · refine ⟨its.toList, r, ⟨o, n, I.kIn a o hk, hc, hd, by simpa using hs⟩, ?_⟩
    have e := r.length
    simp only [Array.length_toList] at e
    omega
theorem Inv.tuple (I : Inv X pins σ H s) (h : SqT X.K H a xs) : ∃ its : List Value, Vals xs its ∧ IsTup s.heap a its.toArray ∧ xs.length ≤ sizeLine := by
  rcases h with h | ⟨o, its, n, hk, hc, hs, hz, r⟩
  · obtain ⟨z, its, r, p⟩ := h.ok I.hok
    exact ⟨its, r, p, z⟩
  · refine ⟨its.toList, r, ⟨o, I.kIn a o hk, hc, n, by simpa using hs⟩, ?_⟩
    have e := r.length
    simp only [Array.length_toList] at e
    omega
theorem Inv.list_inj (I : Inv X pins σ H s) (h : SqL X.K H a xs) (h' : SqL X.K H a ys) : xs = ys := by
  obtain ⟨its, r, ⟨o, n, e, _, _, d⟩, _⟩ := I.list h
  obtain ⟨its', r', ⟨o', n', e', _, _, d'⟩, _⟩ := I.list h'
  rw [e] at e'; cases e'
  rw [d] at d'
  injection d' with d1 _
  have : its = its' := by simpa using congrArg Array.toList d1
  subst this
  exact r.inj r'
theorem Inv.tuple_inj (I : Inv X pins σ H s) (h : SqT X.K H a xs) (h' : SqT X.K H a ys) : xs = ys := by
  obtain ⟨its, r, ⟨o, e, _, n, d⟩, _⟩ := I.tuple h
  obtain ⟨its', r', ⟨o', e', _, n', d'⟩, _⟩ := I.tuple h'
  rw [e] at e'; cases e'
  rw [d] at d'
  injection d' with d1 _
  have : its = its' := by simpa using congrArg Array.toList d1
  subst this
  exact r.inj r'
end

/-! ### another wish about exceptions -/
abbrev Cx.wish (X : Cx) (E : Value → Shared → Prop) : Cx := { X with xe := E }
/-- no exception leaves -/
abbrev Cx.nox (X : Cx) : Cx := X.wish fun _ _ => False
theorem Cx.Ok.wish {X : Cx} (ok : X.Ok) (E : Value → Shared → Prop) : (X.wish E).Ok :=
  ⟨ok.mod, ok.kind, ok.glob, ok.blt, ok.above, ok.inj, ok.has, ok.cab, ok.hd, ok.frames, ok.stk, ok.exf, ok.bs, ok.bsz, ok.noex, ok.exfs, ok.funs, ok.frf⟩
theorem Cx.Ok.unwish {X : Cx} {E : Value → Shared → Prop} (ok : (X.wish E).Ok) : X.Ok :=
  ⟨ok.mod, ok.kind, ok.glob, ok.blt, ok.above, ok.inj, ok.has, ok.cab, ok.hd, ok.frames, ok.stk, ok.exf, ok.bs, ok.bsz, ok.noex, ok.exfs, ok.funs, ok.frf⟩
section
variable {X : Cx} {pins : List (Addr × Obj)} {σ : St} {H : Hp} {s : Shared} {E : Value → Shared → Prop}
theorem Inv.wish (I : Inv X pins σ H s) (E : Value → Shared → Prop) : Inv (X.wish E) pins σ H s := ⟨I.ok.wish E, I.os, I.bare, I.base, I.loc, I.cell, I.free, I.freeC, I.pin, I.hok, I.len⟩
theorem Inv.unwish (I : Inv (X.wish E) pins σ H s) : Inv X pins σ H s := ⟨I.ok.unwish, I.os, I.bare, I.base, I.loc, I.cell, I.free, I.freeC, I.pin, I.hok, I.len⟩
theorem SP.unwish {D : Ends} {f : Flow} {s' : Shared} (h : SP (X.wish E) pins D f s') : SP X pins D f s' := by
  cases f with
  | next => obtain ⟨σ', H', I, q⟩ := h; exact ⟨σ', H', I.unwish, q⟩
  | brk => obtain ⟨σ', H', I, q⟩ := h; exact ⟨σ', H', I.unwish, q⟩
  | cont => obtain ⟨σ', H', I, q⟩ := h; exact ⟨σ', H', I.unwish, q⟩
  | ret u => obtain ⟨v, σ', H', I, r, q⟩ := h; exact ⟨v, σ', H', I.unwish, r, q⟩
theorem PE.nox {e : Expr} {t : TE} (h : PE X.nox e t) : PE X e t := fun pins s σ H Q I hw =>
  wpAny_mono (h pins s σ H Q (I.wish _) hw) (fun _ _ ⟨v, H', I', r, q⟩ => ⟨v, H', I'.unwish, r, q⟩) fun _ _ z => False.elim z
theorem PT.nox {e : Expr} {t : TT} (h : PT X.nox e t) : PT X e t := fun pins s σ H Q I hw =>
  wpAny_mono (h pins s σ H Q (I.wish _) hw) (fun _ _ ⟨H', I', q⟩ => ⟨H', I'.unwish, q⟩) fun _ _ z => False.elim z
theorem PSs.nox {st : List Stmt} {t : TS} (h : PSs X.nox st t) : PSs X st t := fun pins s σ H D I hw =>
  wpAny_mono (h pins s σ H D (I.wish _) hw) (fun _ _ q => q.unwish) fun _ _ z => False.elim z
end

/-! ### blocks and small statements -/
section
variable {X : Cx} {st : Stmt} {rest : List Stmt} {t u : TS} {e : Expr} {te : TE} {pos : Pos}
def tNext : TS := fun D σ H => D.nx σ H
def tSeq (t u : TS) : TS := fun D σ H => t { D with nx := u D } σ H
theorem pss_nil : PSs X [] tNext := fun _ _ σ H _ I h => wpAny_execs_nil ⟨σ, H, I, h⟩
theorem pss_cons (h1 : PS X st t) (h2 : PSs X rest u) : PSs X (st :: rest) (tSeq t u) := by
  intro pins s σ H D I h
  refine wpAny_execs_cons (thn (h1 pins s σ H { D with nx := u D } I h) fun f s1 q => ?_)
  cases f with
  | next =>
    obtain ⟨σ', H', I', q⟩ := q
    exact h2 pins s1 σ' H' D I' q
  | ret v => exact q
  | brk => exact q
  | cont => exact q
theorem pss_one (h1 : PS X st t) : PSs X [st] t := by
  intro pins s σ H D I h
  refine wpAny_execs_cons (thn (h1 pins s σ H D I h) fun f s1 q => ?_)
  cases f with
  | next => exact wpAny_execs_nil q
  | ret v => exact q
  | brk => exact q
  | cont => exact q
def tBreak : TS := fun D σ H => D.bk σ H
def tCont : TS := fun D σ H => D.ct σ H
theorem ps_pass : PS X (.Pass pos) tNext := fun _ _ σ H _ I h => wpAny_Pass ⟨σ, H, I, h⟩
theorem ps_break : PS X (.Break pos) tBreak := fun _ _ σ H _ I h => wpAny_Break ⟨σ, H, I, h⟩
theorem ps_continue : PS X (.Continue pos) tCont := fun _ _ σ H _ I h => wpAny_Continue ⟨σ, H, I, h⟩
/-- in a def's body nothing is shown -/
theorem Inv.quiet {pins : List (Addr × Obj)} {σ : St} {H : Hp} {s : Shared} (I : Inv X pins σ H s) : interactive X.env = false := by simp [interactive, I.ok.kind]
/-- a docstring -/
theorem ps_doc {x j pos pos'} : PS X (.Expr (.Constant (.str x) j pos) pos') tNext := fun _ s σ H _ I h => wpAny_Expr (Calls.Constant_str (show SP X _ _ .next { s with toks := s.toks + 1 } from ⟨σ, H, I.tok _, h⟩)) I.quiet
/-- an expression whose value is dropped -/
def tDrop (te : TE) : TS := fun D σ H => te σ H fun _ H1 => D.nx σ H1
theorem ps_expr (he : PE X e te) (hs : swapsWith e none pos.line X.env = pure false := by rfl) : PS X (.Expr e pos) (tDrop te) := by
  intro pins s σ H D I h
  exact wpAny_Expr_any (thn (he pins s σ H _ I h) fun v s1 ⟨x, H1, I1, r1, q1⟩ => ⟨σ, H1, I1, q1⟩) I.quiet hs
def tRet (te : TE) : TS := fun D σ H => te σ H D.rt
theorem ps_ret (he : PE X e te) : PS X (.Return (some e) pos) (tRet te) := by
  intro pins s σ H D I h
  exact wpAny_Return_some (thn (he pins s σ H _ I h) fun v s1 ⟨x, H1, I1, r1, q1⟩ => ⟨x, σ, H1, I1, r1, q1⟩)
def tRetN : TS := fun D _ H => D.rt .non H
theorem ps_retN : PS X (.Return none pos) tRetN := fun _ _ σ H _ I h => wpAny_Return_none ⟨.non, σ, H, I, rfl, h⟩
def tIfS (c : TT) (t u : TS) : TS := fun D σ H => c σ H fun b H1 => if b = true then t D σ H1 else u D σ H1
theorem ps_if {c : Expr} {a b : List Stmt} {tc : TT} (hc : PT X c tc) (ha : PSs X a t) (hb : PSs X b u) : PS X (.If c a b pos) (tIfS tc t u) := by
  intro pins s σ H D I h
  refine wpAny_If (thn (hc pins s σ H _ I h) fun d s1 ⟨H1, I1, q1⟩ => ?_)
  cases d with
  | true => exact ha pins s1 σ H1 D I1 q1
  | false => exact hb pins s1 σ H1 D I1 q1
/-- code that the proof never comes to -/
def tNever : TS := fun _ _ _ => False
theorem ps_never : PS X st tNever := fun _ _ _ _ _ _ h => h.elim
theorem pss_never {sts : List Stmt} : PSs X sts tNever := fun _ _ _ _ _ _ h => h.elim
end

/-! ### targets -/
abbrev TG := V → St → Hp → (St → Hp → Prop) → Prop
abbrev TGs := List V → St → Hp → (St → Hp → Prop) → Prop
def PG (X : Cx) (target : Expr) (t : TG) : Prop :=
  ∀ (pins : List (Addr × Obj)) (s : Shared) (σ : St) (H : Hp) (v : V) (u : Value) (Q : St → Hp → Prop), Inv X pins σ H s → RelV v u → t v σ H Q →
    wpAny (model X.prog X.w) X.A (assign target X.env u) (fun _ s' => ∃ σ' H', Inv X pins σ' H' s' ∧ Q σ' H') X.xe s
/-- several targets, one after another -/
def PGs (X : Cx) (ts : List Expr) (t : TGs) : Prop :=
  ∀ (pins : List (Addr × Obj)) (s : Shared) (σ : St) (H : Hp) (vs : List V) (us : List Value) (Q : St → Hp → Prop), Inv X pins σ H s → Vals vs us → t vs σ H Q →
    wpAny (model X.prog X.w) X.A (assignInOrder ((assignEach ts X.env).map (·.2)) us) (fun _ s' => ∃ σ' H', Inv X pins σ' H' s' ∧ Q σ' H') X.xe s
/-- o[i] = v, by values -/
abbrev TSet := V → V → V → Hp → (Hp → Prop) → Prop
def PSet (X : Cx) (t : TSet) : Prop :=
  ∀ (pins : List (Addr × Obj)) (s : Shared) (σ : St) (H : Hp) (o i v : V) (ov iv u : Value) (Q : Hp → Prop), Inv X pins σ H s → RelV o ov → RelV i iv → RelV v u → t o i v H Q →
    wpAny (model X.prog X.w) X.A (setItem ov iv u) (fun _ s' => ∃ H', Inv X pins σ H' s' ∧ Q H') X.xe s
/-- a op= b, by values -/
abbrev TIp := V → V → Hp → VK → Prop
def PIp (X : Cx) (op : Operator) (t : TIp) : Prop :=
  ∀ (pins : List (Addr × Obj)) (s : Shared) (σ : St) (H : Hp) (x y : V) (v u : Value) (Q : VK), Inv X pins σ H s → RelV x v → RelV y u → t x y H Q →
    wpAny (model X.prog X.w) X.A (inplaceOp op v u) (EP X pins σ Q) X.xe s
section
variable {X : Cx} {pos : Pos}
def gName (i : Nat) : TG := fun v σ H Q => Q (σ.set i (some v)) H
theorem pg_name {i : Nat} {x : Str} (hN : X.N.Nodup) (hi : X.N[i]? = some x) (hx : Loc X.env.scope x) (hf : X.fn x = true ∨ X.env.scope.names.lookup x = some .local := by first | exact .inl rfl | exact .inr rfl | assumption) : PG X (.Name x pos) (gName i) := by
  intro pins s σ H v u Q I r h
  exact wpAny_assign_Name (store_ok I hN hi hx r (fun s' I' => ⟨_, H, I', h⟩) hf)
def gNil : TGs := fun vs σ H Q => vs = [] ∧ Q σ H
def gCons (t : TG) (u : TGs) : TGs := fun vs σ H Q => ∃ v r, vs = v :: r ∧ t v σ H fun σ' H' => u r σ' H' Q
theorem pgs_nil : PGs X [] gNil := by
  intro pins s σ H vs us Q I r h
  obtain ⟨e, h⟩ := h
  subst e
  cases r
  exact assignInOrder_nil ⟨σ, H, I, h⟩
theorem pgs_cons {e : Expr} {es : List Expr} {t : TG} {u : TGs} (h1 : PG X e t) (h2 : PGs X es u)
    (hs : (assignEach (e :: es) X.env).map (·.2) = assign e X.env :: (assignEach es X.env).map (·.2) := by rfl) : PGs X (e :: es) (gCons t u) := by
  intro pins s σ H vs us Q I r h
  obtain ⟨v, vr, e1, h⟩ := h
  subst e1
  cases r with
  | cons r rr =>
    rw [hs]
    refine assignInOrder_cons (thn (h1 pins s σ H _ _ _ I r h) fun _ s1 ⟨σ1, H1, I1, q1⟩ => ?_)
    exact h2 pins s1 σ1 H1 _ _ Q I1 rr q1
/-- (a, b, ..) = a tuple of that length -/
def gTup (K : PySem.W.Frag) (n : Nat) (t : TGs) : TG := fun v σ H Q => ∃ a xs, v = .ref a ∧ SqT K H a xs ∧ xs.length = n ∧ t xs σ H Q
theorem pg_tup {es : List Expr} {k : Nat} {t : TGs} {n : Nat} (hc : X.calm = true) (h : PGs X es t)
    (hn : (assignEach es X.env).length = n := by rfl) (hst : (assignEach es X.env).findIdx? (·.1) = none := by rfl) : PG X (.Tuple es k pos) (gTup X.K n t) := by
  intro pins s σ H v u Q I r hw
  obtain ⟨a, xs, e1, hq, hl, hw⟩ := hw
  subst e1
  cases r
  obtain ⟨its, rv, ht, hz⟩ := I.tuple hq
  refine assign_Tuple_tuple (I.ok.hd hc) ht (by simp [hn, ← hl, rv.length]) hst fun h' hx => ?_
  have I1 : Inv X pins σ H { s with heap := h' } := I.kept (t' := s.toks) fun b o e => hx b o (Nat.ne_of_lt (Heap.lt_size e)) e
  exact h pins _ σ H xs _ Q I1 (by simpa using rv) hw
/-- o[i] = .. -/
def gSub (to ti : TE) (t : TSet) : TG := fun v σ H Q => to σ H fun o H1 => ti σ H1 fun i H2 => t o i v H2 fun H3 => Q σ H3
theorem pg_sub {o i : Expr} {to ti : TE} {t : TSet} (ho : PE X o to) (hi : PE X i ti) (hs : PSet X t)
    (ha : ∀ v, assign (.Subscript o i pos) X.env v = (do
      let ov ← holding [v] (eval o X.env)
      let iv ← holding [v, ov] (eval i X.env)
      standAt pos
      holding [v, ov, iv] (setItem ov iv v)
      release [v, ov, iv] []) := by intro _; rfl) : PG X (.Subscript o i pos) (gSub to ti t) := by
  intro pins s σ H v u Q I r h
  rw [ha]
  refine wpAny_bind (wpAny_holding (thn (ho pins s σ H _ I h) fun ov s1 ⟨x, H1, I1, r1, q1⟩ => ?_))
  refine wpAny_bind (wpAny_holding (thn (hi pins s1 σ H1 _ I1 q1) fun iv s2 ⟨y, H2, I2, r2, q2⟩ => ?_))
  refine wpAny_bind (wpAny_standAt (wpAny_bind (wpAny_holding (thn (hs pins s2 σ H2 x y v ov iv u _ I2 r1 r2 r q2) fun _ s3 ⟨H3, I3, q3⟩ => ?_))))
  exact wpAny_release ⟨σ, H3, I3, q3⟩
/-- target = value -/
def tAsg (te : TE) (g : TG) : TS := fun D σ H => te σ H fun x H1 => g x σ H1 D.nx
theorem ps_asg {tg e : Expr} {te : TE} {g : TG} (he : PE X e te) (hg : PG X tg g) (hs : swapsWithSole [tg] e pos.line X.env = pure false := by rfl) (hw : swappedStores [tg] e X.env = pure none := by rfl)
    (h1 : (assignEach [tg] X.env).map (·.2) = [assign tg X.env] := by rfl) : PS X (.Assign [tg] e pos) (tAsg te g) := by
  intro pins s σ H D I h
  refine wpAny_Assign_stores (thn (he pins s σ H _ I h) fun v s1 ⟨x, H1, I1, r1, q1⟩ => ?_) hs hw
  rw [h1]
  exact thn (hg pins s1 σ H1 x v _ I1 r1 q1) fun _ s2 q => q
/-- name = value -/
theorem ps_set {i : Nat} {x : Str} {e : Expr} {te : TE} {pos' : Pos} (hN : X.N.Nodup) (hi : X.N[i]? = some x) (hx : Loc X.env.scope x) (he : PE X e te) (hs : swapsWith e (some (.Name x pos')) pos.line X.env = pure false := by rfl) (hf : X.fn x = true ∨ X.env.scope.names.lookup x = some .local := by first | exact .inl rfl | exact .inr rfl | assumption) :
    PS X (.Assign [.Name x pos'] e pos) (tAsg te (gName i)) := by
  intro pins s σ H D I h
  refine wpAny_Assign_Name (thn (he pins s σ H _ I h) fun v s1 ⟨y, H1, I1, r1, q1⟩ => ?_) hs
  exact store_ok I1 hN hi hx r1 (fun s2 I2 => ⟨_, H1, I2, q1⟩) hf
/-- a, b = x, y with plain local names: stored from the right; the pair itself is not tracked (the opening rows as in PyProof/Rows/TupAssign.lean:23) -/
def tPar (i j : Nat) (ta : TA) : TS := fun D σ H => ta σ H fun vs H1 => ∃ v w, vs = [v, w] ∧ D.nx ((σ.set i (some v)).set j (some w)) H1
theorem ps_par {i j : Nat} {x y : Str} {a b : Expr} {ta : TA} {px py pt : Pos} {kt k2 pt2} (hc : X.calm = true) (hN : X.N.Nodup) (hi : X.N[i]? = some x) (hj : X.N[j]? = some y) (hij : i ≠ j)
    (hx : X.env.scope.names.lookup x = some .local) (hy : X.env.scope.names.lookup y = some .local) (ha : PA X [a, b] ta)
    (hw : swappedStores [.Tuple [.Name x px, .Name y py] kt pt] (.Tuple [a, b] k2 pt2) X.env = pure (some [x, y]))
    (hs : swapsWithSole [.Tuple [.Name x px, .Name y py] kt pt] (.Tuple [a, b] k2 pt2) pos.line X.env = pure false := by rfl) :
    PS X (.Assign [.Tuple [.Name x px, .Name y py] kt pt] (.Tuple [a, b] k2 pt2) pos) (tPar i j ta) := by
  intro pins s σ H D I h
  rw [exec_Assign_arm]
  refine wpAny_bind (wpAny_standAt ?_)
  rw [hs]
  refine wpAny_bind (wpAny_pure ?_)
  rw [if_neg (by decide)]
  refine wpAny_bind (Tuple_ (thn (ha _ pins s σ H _ I h) fun us s1 ⟨vs, H1, I1, r1, q1⟩ => ?_))
  obtain ⟨v, w, e1, q1⟩ := q1
  subst e1
  obtain ⟨u1, u2, rfl, rv, rw'⟩ : ∃ u1 u2, us = [u1, u2] ∧ RelV v u1 ∧ RelV w u2 := by
    cases r1 with
    | cons p q =>
      cases q with
      | cons p' q' =>
        cases q'
        exact ⟨_, _, rfl, p, p'⟩
  refine wpAny_newObj_type ?_ (by show 2 ≤ sizeLine; decide)
  have I2 : Inv X pins σ H1 { s1 with heap := s1.heap.push { cls := .type "tuple", data := .seq [u1, u2].toArray } } := I1.kept (t' := s1.toks) fun b o e => Heap.get?_push_of_some _ e
  rw [hw]
  refine wpAny_bind (wpAny_pure ?_)
  show wpAny (model X.prog X.w) X.A (do rule "assign.swapped-stores"; let items ← unpackItems (.ref s1.heap.objs.size) 2 none; assignInOrder [fun v => bindName X.env y v, fun v => bindName X.env x v] items.reverse; pure Flow.next) _ _ _
  refine wpAny_bind (wpAny_rule (wpAny_bind (unpackItems_tuple (items := #[u1, u2]) (I.ok.hd hc) (IsTup.new s1.heap _) fun h' hx' => ?_)))
  have I3 := I2.kept (h' := h') (t' := s1.toks) fun b o e => hx' b o (Nat.ne_of_lt (Heap.lt_size e)) e
  show wpAny _ _ (assignInOrder [fun v => bindName X.env y v, fun v => bindName X.env x v] [u2, u1] >>= fun _ => pure Flow.next) _ _ _
  refine wpAny_bind (assignInOrder_cons (wpAny_bindName (store_ok I3 hN hj (.inl hy) rw' (fun s2 I4 => ?_) (.inr hy))))
  refine assignInOrder_cons (wpAny_bindName (store_ok I4 hN hi (.inl hx) rv (fun s3 I5 => assignInOrder_nil (wpAny_pure ?_)) (.inr hx)))
  rw [List.set_comm _ _ (Ne.symm hij)] at I5
  exact ⟨_, H1, I5, q1⟩
/-- name op= e -/
def tAug (i : Nat) (te : TE) (ti : TIp) : TS := fun D σ H => ∃ x, σ[i]? = some (some x) ∧ te σ H fun y H1 => ti x y H1 fun z H2 => D.nx (σ.set i (some z)) H2
theorem ps_aug {i : Nat} {x : Str} {e : Expr} {te : TE} {op : Operator} {ti : TIp} {pos' : Pos} (hN : X.N.Nodup) (hi : X.N[i]? = some x) (hx : Loc X.env.scope x) (he : PE X e te) (ho : PIp X op ti) (hf : X.fn x = true ∨ X.env.scope.names.lookup x = some .local := by first | exact .inl rfl | exact .inr rfl | assumption) :
    PS X (.AugAssign (.Name x pos') op e pos) (tAug i te ti) := by
  intro pins s σ H D I h
  obtain ⟨v, e1, h⟩ := h
  obtain ⟨m, hn, hl⟩ := I.loc
  have vis : Vis X.env.scope x := by rcases hx with k | k; exact .inl k; exact .inr (.inl k)
  obtain ⟨u, r, l⟩ := hl i x v hi e1 vis
  refine wpAny_AugAssign_Name ?_
  have go : wpAny (model X.prog X.w) X.A (eval e X.env) (fun w s₂ => wpAny (model X.prog X.w) X.A (inplaceOp op u w) (fun r s₃ => wpAny (model X.prog X.w) X.A (storeName X.env x r) (fun _ => SP X pins D .next) X.xe s₃) X.xe s₂) X.xe s := by
    refine thn (he pins s σ H _ I h) fun w s1 ⟨y, H1, I1, r1, q1⟩ => ?_
    refine thn (ho pins s1 σ H1 v y u w _ I1 r r1 q1) fun z s2 ⟨zv, H2, I2, r2, q2⟩ => ?_
    exact store_ok I2 hN hi hx r2 (fun s3 I3 => ⟨_, H2, I3, q2⟩) hf
  rcases l with ⟨hk, hm⟩ | ⟨hk, c, hc, hcell⟩
  · exact wpAny_loadName_local I.ok.kind hk hn hm go
  · rcases hk with hk | hk
    · exact wpAny_loadName_cell I.ok.kind hk hc hcell go
    · rcases hx with k | k
      · have : X.env.scope.names.lookup x = some .free := hk
        rw [k] at this; cases this
      · have : X.env.scope.names.lookup x = some .free := hk
        rw [k] at this; cases this
/-- o[i] op= e -/
def tAugS (to ti te : TE) (tget : V → V → Hp → VK → Prop) (tip : TIp) (tset : TSet) : TS := fun D σ H => to σ H fun o H1 => ti σ H1 fun i H2 => tget o i H2 fun x H3 => te σ H3 fun y H4 => tip x y H4 fun z H5 => tset o i z H5 fun H6 => D.nx σ H6
/-- o[i], by values -/
def PGet (X : Cx) (t : V → V → Hp → VK → Prop) : Prop :=
  ∀ (pins : List (Addr × Obj)) (s : Shared) (σ : St) (H : Hp) (o i : V) (ov iv : Value) (Q : VK), Inv X pins σ H s → RelV o ov → RelV i iv → t o i H Q →
    wpAny (model X.prog X.w) X.A (getItem ov iv) (EP X pins σ Q) X.xe s
theorem ps_augS {o i e : Expr} {to ti te : TE} {tget : V → V → Hp → VK → Prop} {tip : TIp} {tset : TSet} {op : Operator} {tpos : Pos} (ho : PE X o to) (hi : PE X i ti) (hg : PGet X tget) (he : PE X e te) (hp : PIp X op tip) (hs : PSet X tset)
    (ha : ∀ ov iv new, augStore i ov iv new = (do holding [new, ov, iv] (setItem ov iv new); release [new, ov, iv] []; pure .next) := by intros; rfl) : PS X (.AugAssign (.Subscript o i tpos) op e pos) (tAugS to ti te tget tip tset) := by
  intro pins s σ H D I h
  refine wpAny_AugAssign_SubscriptAny (thn (ho pins s σ H _ I h) fun ov s1 ⟨x1, H1, I1, r1, q1⟩ => ?_) ha
  refine thn (hi pins s1 σ H1 _ I1 q1) fun iv s2 ⟨x2, H2, I2, r2, q2⟩ => ?_
  refine thn (hg pins s2 σ H2 x1 x2 ov iv _ I2 r1 r2 q2) fun old s3 ⟨x3, H3, I3, r3, q3⟩ => ?_
  refine thn (he pins s3 σ H3 _ I3 q3) fun v s4 ⟨x4, H4, I4, r4, q4⟩ => ?_
  refine thn (hp pins s4 σ H4 x3 x4 old v _ I4 r3 r4 q4) fun new s5 ⟨x5, H5, I5, r5, q5⟩ => ?_
  exact thn (hs pins s5 σ H5 x1 x2 x5 ov iv new _ I5 r1 r2 r5 q5) fun _ s6 ⟨H6, I6, q6⟩ => ⟨σ, H6, I6, q6⟩
/-- ints -/
def ipI (f : Int → Int → Int) : TIp := fun x y H Q => ∃ i j, x = .int i ∧ y = .int j ∧ Q (.int (f i j)) H
theorem ip_add : PIp X .Add (ipI fun i j => i + j) := by
  intro pins s σ H x y v u Q I r1 r2 h
  obtain ⟨i, j, e1, e2, q⟩ := h
  subst e1; subst e2
  obtain ⟨t, rfl⟩ := r1
  obtain ⟨t', rfl⟩ := r2
  exact iadd_int ⟨.int _, H, I.tok _, ⟨_, rfl⟩, q⟩
theorem ip_sub : PIp X .Sub (ipI fun i j => i - j) := by
  intro pins s σ H x y v u Q I r1 r2 h
  obtain ⟨i, j, e1, e2, q⟩ := h
  subst e1; subst e2
  obtain ⟨t, rfl⟩ := r1
  obtain ⟨t', rfl⟩ := r2
  exact isub_int ⟨.int _, H, I.tok _, ⟨_, rfl⟩, q⟩
end

/-! ### while -/
section
variable {X : Cx} {pos : Pos}
/-- the invariant W with its measure -/
def tWhile (c : TT) (tb : TS) : TS := fun D σ H => ∃ W : Nat → St → Hp → Prop, (∃ m, W m σ H) ∧ ∀ m σ H, W m σ H →
  c σ H fun b H1 => if b = true then ∃ N : St → Hp → Prop, (∀ σ' H', N σ' H' → ∃ m', m' < m ∧ W m' σ' H') ∧ tb { D with nx := N, ct := N, bk := D.nx } σ H1 else D.nx σ H1
theorem ps_while {c : Expr} {body : List Stmt} {tc : TT} {tb : TS} (hp : PassesOwn (model X.prog X.w) X.A X.env X.xe) (hc : PT X c tc) (hb : PSs X body tb) : PS X (.While c body [] pos) (tWhile tc tb) := by
  intro pins s σ H D I h
  obtain ⟨W, ⟨m0, w0⟩, turn⟩ := h
  refine wpAny_While (codeAny_whileLoop (fun n s' => ∃ σ' H', Inv X pins σ' H' s' ∧ W n σ' H') ?_ m0 ⟨σ, H, I, w0⟩)
  rintro n s1 ⟨σ1, H1, I1, w1⟩
  refine wpAny_passesOwn hp (thn (hc pins s1 σ1 H1 _ I1 (turn n σ1 H1 w1)) fun b s2 ⟨H2, I2, q2⟩ => ?_)
  cases b with
  | true =>
    obtain ⟨N, hN, q2⟩ := q2
    rw [if_pos rfl]
    refine wpAny_passesOwn hp (thn (hb pins s2 σ1 H2 _ I2 q2) fun f s3 q3 => ?_)
    cases f with
    | next =>
      obtain ⟨σ3, H3, I3, n3⟩ := q3
      obtain ⟨m', hm, w3⟩ := hN σ3 H3 n3
      exact ⟨m', hm, σ3, H3, I3, w3⟩
    | cont =>
      obtain ⟨σ3, H3, I3, n3⟩ := q3
      obtain ⟨m', hm, w3⟩ := hN σ3 H3 n3
      exact ⟨m', hm, σ3, H3, I3, w3⟩
    | brk => exact q3
    | ret v => exact q3
  | false =>
    rw [if_neg Bool.false_ne_true]
    exact wpAny_execs_nil ⟨σ1, H2, I2, q2⟩
end

/-! ### what a loop or a comprehension walks -/
/-- at turn i: it yields x (the heap may grow), or it stops -/
structure It where
  go : Nat → Hp → Prop
  yld : Nat → Hp → V → Hp → Prop
  stop : Nat → Hp → Prop
/-- the iterator's own objects may turn: they are not the frame's, not pinned, younger than the entry (or a comprehension's own) -/
def FpOk (X : Cx) (pins : List (Addr × Obj)) (H : Hp) (b : Addr) : Prop :=
  H b = none ∧ b ≠ X.env.locals ∧ b ∉ X.fs ∧ (b ∈ X.ex ∨ X.s₀.heap.objs.size ≤ b) ∧ (∀ x c, X.env.cells.lookup x = some c → c ≠ b) ∧ ∀ p ∈ X.pn ++ pins, p.1 ≠ b
theorem Inv.fpOk {X : Cx} {pins : List (Addr × Obj)} {σ : St} {H H' : Hp} {s : Shared} {b : Addr} (I : Inv X pins σ H s) (hb : s.heap.objs.size ≤ b) (hn : H' b = none) : FpOk X pins H' b := by
  refine ⟨hn, Nat.ne_of_gt (Nat.lt_of_lt_of_le I.lt hb), I.nofs hb, .inr (Nat.le_trans I.sz hb), fun x c e z => ?_, fun p hp z => ?_⟩
  · obtain ⟨v, q⟩ := I.cell x c e
    exact absurd (Nat.lt_of_lt_of_le q.lt (by rw [z]; exact hb)) (Nat.lt_irrefl _)
  · exact absurd (Nat.lt_of_lt_of_le (Heap.lt_size (I.pin p hp).1) (by rw [z]; exact hb)) (Nat.lt_irrefl _)
structure Turn (P : Program) (w : World) (K : PySem.W.Frag) (tg : Expr) (J : It) (fp : List Addr) (it : Addr) (tn : Nat → Heap → Prop) : Prop where
  mem : it ∈ fp
  obj : ∀ i h, tn i h → ∀ b ∈ fp, ∃ o, h.get? b = some o ∧ ∀ v, o.data ≠ .cell v
  keep : ∀ i h h', tn i h → (∀ b ∈ fp, ∀ o, h.get? b = some o → h'.get? b = some o) → tn i h'
  item : ∀ (X : Cx), X.prog = P → X.w = w → X.K = K → X.calm = true → ∀ (i : Nat) (pins : List (Addr × Obj)) (s : Shared) (σ : St) (H : Hp) (E : Value → Shared → Prop), Inv X pins σ H s → (∀ b ∈ fp, FpOk X pins H b) → tn i s.heap → J.go i H →
    wpAny (model P w) X.A (pyNext (.ref it)) (fun r s1 => ∃ u, r = some u ∧
      wpAny (model P w) X.A (letOwnedTupleGo tg (.ref it) u) (fun _ s2 => ∃ x H', Inv X pins σ H' s2 ∧ RelV x u ∧ J.yld i H x H' ∧ tn (i + 1) s2.heap ∧ ∀ b ∈ fp, H' b = none) E s1) E s
  done : ∀ (X : Cx), X.prog = P → X.w = w → X.K = K → X.calm = true → ∀ (i : Nat) (pins : List (Addr × Obj)) (s : Shared) (σ : St) (H : Hp) (E : Value → Shared → Prop), Inv X pins σ H s → (∀ b ∈ fp, FpOk X pins H b) → tn i s.heap → J.stop i H →
    wpAny (model P w) X.A (pyNext (.ref it)) (fun r s1 => r = none ∧ Inv X pins σ H s1) E s
  self : ∀ (A : Around) (i : Nat) (s : Shared) (Q : Value → Shared → Prop) (E : Value → Shared → Prop), tn i s.heap → Q (.ref it) s → wpAny (model P w) A (pyIter (.ref it)) Q E s
abbrev TI := St → Hp → (It → Hp → Prop) → Prop
/-- an iterator has come -/
def PIE (X : Cx) (pins : List (Addr × Obj)) (σ : St) (tg : Expr) (R : It → Hp → Prop) (itv : Value) (s2 : Shared) : Prop :=
  ∃ (it : Addr) (fp : List Addr) (tn : Nat → Heap → Prop) (J : It) (H' : Hp), itv = .ref it ∧ Inv X pins σ H' s2 ∧ Turn X.prog X.w X.K tg J fp it tn ∧ tn 0 s2.heap ∧ (∀ b ∈ fp, FpOk X pins H' b) ∧ R J H'
def PI (X : Cx) (tg iter : Expr) (wi : TI) : Prop :=
  ∀ (pins : List (Addr × Obj)) (s : Shared) (σ : St) (H : Hp) (R : It → Hp → Prop), Inv X pins σ H s → wi σ H R →
    wpAny (model X.prog X.w) X.A (eval iter X.env) (fun v s1 => wpAny (model X.prog X.w) X.A (pyIter v) (PIE X pins σ tg R) X.xe s1) X.xe s

/-- the step ahead of the store is nothing for an iterator that keeps no tuple -/
theorem go_of {M : Model} {A : Around} {E : Value → Shared → Prop} {s : Shared} {tg : Expr} {it : Addr} {u : Value} {o : Obj} {n : String} {vs : Array Value} {Q : Unit → Shared → Prop} (ho : s.heap.get? it = some o) (hc : o.cls = .type n) (hd : o.data = .fields vs)
    (hn : ["enumerate", "zip", "dict_itemiterator", "dict_reverseitemiterator", "odict_iterator", "itertools.zip_longest", "itertools.pairwise"].contains n = false) (hQ : Q () s) : wpAny M A (letOwnedTupleGo tg (.ref it) u) Q E s := by
  unfold letOwnedTupleGo
  cases tg <;> first
    | exact wpAny_pure hQ
    | (cases u <;> first
        | exact wpAny_pure hQ
        | (refine wpAny_bind (wpAny_load ho ?_)
           rw [hc, hd]
           show wpAny M A (if (["enumerate", "zip", "dict_itemiterator", "dict_reverseitemiterator", "odict_iterator", "itertools.zip_longest", "itertools.pairwise"].contains n && vs[0]? == some (rawInt _)) = true then _ else _) Q E s
           rw [if_neg (by intro h; rw [hn, Bool.false_and] at h; cases h)]
           exact wpAny_pure hQ))

/-- the list at a, as it stands at each turn (a loop may append to it) -/
def Itl (K : PySem.W.Frag) (a : Addr) : It :=
  ⟨fun i H => ∃ xs x, SqL K H a xs ∧ xs[i]? = some x, fun i H x H' => H' = H ∧ ∀ xs, SqL K H a xs → xs[i]? = some x, fun i H => ∃ xs, SqL K H a xs ∧ xs.length ≤ i⟩
def Itt (K : PySem.W.Frag) (a : Addr) : It :=
  ⟨fun i H => ∃ xs x, SqT K H a xs ∧ xs[i]? = some x, fun i H x H' => H' = H ∧ ∀ xs, SqT K H a xs → xs[i]? = some x, fun i H => ∃ xs, SqT K H a xs ∧ xs.length ≤ i⟩
/-- lo, lo + 1, .. (n of them) -/
def Itr (lo : Int) (n : Nat) : It := ⟨fun i _ => i < n, fun i H x H' => H' = H ∧ x = .int (lo + i), fun i _ => n ≤ i⟩
theorem turn_list {P : Program} {w : World} {K : PySem.W.Frag} {tg : Expr} (a it : Addr) : Turn P w K tg (Itl K a) [it] it (fun i h => h.IsListIter it a i) where
  mem := by simp
  obj := fun i h st b hb => by
    have e : b = it := by simpa using hb
    subst e
    obtain ⟨o, e, c, d⟩ := st
    exact ⟨o, e, fun v z => by rw [d] at z; cases z⟩
  keep := fun i h h' st k => st.at fun o e => k it (by simp) o e
  item := by
    intro X hP hw hK hc i pins s σ H E I hf st hg
    subst hP hw hK
    obtain ⟨xs, x, hq, hx⟩ := hg
    obtain ⟨its, rv, p, hz⟩ := I.list hq
    obtain ⟨u, hu, ru⟩ := rv.get hx
    obtain ⟨f0, f1, f2, f3, f4, f5⟩ := hf it (by simp)
    refine wpAny_pyNext_list_item st p.isList (x := u) (by simpa using hu) fun h' st' sb => ?_
    have I1 : Inv X pins σ H { s with heap := h' } := I.turned (t' := s.toks) (fun b o hb e => (sb.2 b hb).trans e) f0 f1 f3 f4 f5
    obtain ⟨o, e, c, d⟩ := id st'
    exact ⟨u, rfl, go_of (s := { s with heap := h' }) e c d (by decide) ⟨x, H, I1, ru, ⟨rfl, fun ys hy => by rw [I.list_inj hy hq]; exact hx⟩, st', fun b hb => (hf b hb).1⟩⟩
  done := by
    intro X hP hw hK hc i pins s σ H E I hf st hg
    subst hP hw hK
    obtain ⟨xs, hq, hx⟩ := hg
    obtain ⟨its, rv, p, hz⟩ := I.list hq
    obtain ⟨f0, f1, f2, f3, f4, f5⟩ := hf it (by simp)
    have hl := rv.length
    exact wpAny_pyNext_list_end (I.ok.hd hc) st p.isList (by simp; omega) fun h' eb => ⟨rfl, I.turned (t' := s.toks) (fun b o hb e => eb b o hb e) f0 f1 f3 f4 f5⟩
  self := fun _ _ _ _ _ st h => wpAny_pyIter_listiter st h
theorem turn_tuple {P : Program} {w : World} {K : PySem.W.Frag} {tg : Expr} (a it : Addr) : Turn P w K tg (Itt K a) [it] it (fun i h => h.IsTupleIter it a i) where
  mem := by simp
  obj := fun i h st b hb => by
    have e : b = it := by simpa using hb
    subst e
    obtain ⟨o, e, c, d⟩ := st
    exact ⟨o, e, fun v z => by rw [d] at z; cases z⟩
  keep := fun i h h' st k => st.at fun o e => k it (by simp) o e
  item := by
    intro X hP hw hK hc i pins s σ H E I hf st hg
    subst hP hw hK
    obtain ⟨xs, x, hq, hx⟩ := hg
    obtain ⟨its, rv, p, hz⟩ := I.tuple hq
    obtain ⟨u, hu, ru⟩ := rv.get hx
    obtain ⟨f0, f1, f2, f3, f4, f5⟩ := hf it (by simp)
    refine wpAny_pyNext_tuple_item st (show s.heap.IsTuple a its.toArray from p) (x := u) (by simpa using hu) fun h' st' sb => ?_
    have I1 : Inv X pins σ H { s with heap := h' } := I.turned (t' := s.toks) (fun b o hb e => (sb.2 b hb).trans e) f0 f1 f3 f4 f5
    obtain ⟨o, e, c, d⟩ := id st'
    exact ⟨u, rfl, go_of (s := { s with heap := h' }) e c d (by decide) ⟨x, H, I1, ru, ⟨rfl, fun ys hy => by rw [I.tuple_inj hy hq]; exact hx⟩, st', fun b hb => (hf b hb).1⟩⟩
  done := by
    intro X hP hw hK hc i pins s σ H E I hf st hg
    subst hP hw hK
    obtain ⟨xs, hq, hx⟩ := hg
    obtain ⟨its, rv, p, hz⟩ := I.tuple hq
    obtain ⟨f0, f1, f2, f3, f4, f5⟩ := hf it (by simp)
    have hl := rv.length
    exact wpAny_pyNext_tuple_end (I.ok.hd hc) st (show s.heap.IsTuple a its.toArray from p) (by simp; omega) fun h' eb => ⟨rfl, I.turned (t' := s.toks) (fun b o hb e => eb b o hb e) f0 f1 f3 f4 f5⟩
  self := fun _ _ _ _ _ st h => wpAny_pyIter_tupleiter st h
theorem turn_range {P : Program} {w : World} {K : PySem.W.Frag} {tg : Expr} (it : Addr) (lo : Int) (n : Nat) : Turn P w K tg (Itr lo n) [it] it (fun i h => IsRangeIter h it (lo + (i : Nat) * 1) ((n : Int) - (i : Nat)) 1) where
  mem := by simp
  obj := fun i h st b hb => by
    have e : b = it := by simpa using hb
    subst e
    exact ⟨_, st, fun v z => by
      have z' : Data.fields _ = Data.cell v := z
      cases z'⟩
  keep := fun i h h' st k => k it (by simp) _ st
  item := by
    intro X hP hw hK hc i pins s σ H E I hf st hg
    subst hP hw hK
    obtain ⟨f0, f1, f2, f3, f4, f5⟩ := hf it (by simp)
    have W := Walks.range (prog := X.prog) (w := X.w) (I.ok.hd hc) it lo 1 n
    refine W.item i s _ _ hg st fun v h' tk hv st' kk => ?_
    obtain ⟨t, rfl⟩ := hv
    have I1 : Inv X pins σ H { s with heap := h', toks := tk } := I.turned (fun b o hb e => kk b o (by simpa using hb) e) f0 f1 f3 f4 f5
    refine ⟨_, rfl, go_of (s := { s with heap := h', toks := tk }) (n := "range_iterator") st' rfl rfl (by decide) ⟨.int (lo + i), H, I1, ⟨t, ?_⟩, ⟨rfl, rfl⟩, st', fun b hb => (hf b hb).1⟩⟩
    rw [Int.mul_one]
  done := by
    intro X hP hw hK hc i pins s σ H E I hf st hg
    subst hP hw hK
    obtain ⟨f0, f1, f2, f3, f4, f5⟩ := hf it (by simp)
    exact wpAny_pyNext_range_end (I.ok.hd hc) st (by have : n ≤ i := hg; omega) fun h' eb => ⟨rfl, I.turned (t' := s.toks) (fun b o hb e => eb b o hb e) f0 f1 f3 f4 f5⟩
  self := fun _ _ _ _ _ st h => wpAny_pyIter_rangeiter st h
end L2

namespace L2
open PySem PySem.Spec PyProof.Rows
section
variable {X : Cx} {tg : Expr}
def iList (K : PySem.W.Frag) (tl : TE) : TI := fun σ H R => tl σ H fun x H1 => ∃ a, x = .ref a ∧ (∃ xs, SqL K H1 a xs) ∧ R (Itl K a) H1
def iTup (K : PySem.W.Frag) (tl : TE) : TI := fun σ H R => tl σ H fun x H1 => ∃ a, x = .ref a ∧ (∃ xs, SqT K H1 a xs) ∧ R (Itt K a) H1
theorem pi_list {l : Expr} {tl : TE} (hl : PE X l tl) : PI X tg l (iList X.K tl) := by
  intro pins s σ H R I h
  refine thn (hl pins s σ H _ I h) fun v s1 ⟨x, H1, I1, r1, q1⟩ => ?_
  obtain ⟨a, e, ⟨xs, hq⟩, q⟩ := q1
  subst e
  cases r1
  obtain ⟨its, rv, p, hz⟩ := I1.list hq
  refine wpAny_pyIter_list p.isList ?_
  refine ⟨s1.heap.objs.size, [s1.heap.objs.size], _, _, H1, rfl, I1.kept (t' := s1.toks) fun b o e => Heap.get?_push_of_some _ e, turn_list a _, ⟨_, Heap.get?_push_size _ rfl, rfl, rfl⟩, fun b hb => ?_, q⟩
  have e : b = s1.heap.objs.size := by simpa using hb
  subst e
  exact I1.fpOk (Nat.le_refl _) (I1.hok.fresh (Nat.le_refl _))
theorem pi_tup {l : Expr} {tl : TE} (hl : PE X l tl) : PI X tg l (iTup X.K tl) := by
  intro pins s σ H R I h
  refine thn (hl pins s σ H _ I h) fun v s1 ⟨x, H1, I1, r1, q1⟩ => ?_
  obtain ⟨a, e, ⟨xs, hq⟩, q⟩ := q1
  subst e
  cases r1
  obtain ⟨its, rv, p, hz⟩ := I1.tuple hq
  refine wpAny_pyIter_tuple (show s1.heap.IsTuple a its.toArray from p) ?_
  refine ⟨s1.heap.objs.size, [s1.heap.objs.size], _, _, H1, rfl, I1.kept (t' := s1.toks) fun b o e => Heap.get?_push_of_some _ e, turn_tuple a _, ⟨_, Heap.get?_push_size _ rfl, rfl, rfl⟩, fun b hb => ?_, q⟩
  have e : b = s1.heap.objs.size := by simpa using hb
  subst e
  exact I1.fpOk (Nat.le_refl _) (I1.hok.fresh (Nat.le_refl _))
/-- a range object just made, walked -/
theorem range_it {pins : List (Addr × Obj)} {σ : St} {H : Hp} {s : Shared} {R : It → Hp → Prop} {E : Value → Shared → Prop} {lo hi : Int} {t u v : Tok} {tk : Nat} (I : Inv X pins σ H s) (h1 : -(2 ^ 62) ≤ lo) (h2 : lo < 2 ^ 62) (h3 : -(2 ^ 62) ≤ hi) (h4 : hi < 2 ^ 62)
    (q : R (Itr lo (hi - lo).toNat) H) : wpAny (model X.prog X.w) X.A (pyIter (.ref s.heap.objs.size)) (PIE X pins σ tg R) E { s with heap := s.heap.push { cls := .type "range", data := .fields #[.int lo t, .int hi u, .int 1 v] }, toks := tk } := by
  refine wpAny_pyIter_range (IsRange.new ..) (small_one h1 h2 h3 h4) ?_
  have I1 : Inv X pins σ H { s with heap := s.heap.push { cls := .type "range", data := .fields #[.int lo t, .int hi u, .int 1 v] }, toks := tk } := I.kept fun b o e => Heap.get?_push_of_some _ e
  refine ⟨(s.heap.push { cls := .type "range", data := .fields #[.int lo t, .int hi u, .int 1 v] }).objs.size, [(s.heap.push { cls := .type "range", data := .fields #[.int lo t, .int hi u, .int 1 v] }).objs.size], _, _, H, rfl,
    I1.kept (t' := tk) fun b o e => Heap.get?_push_of_some _ e, turn_range _ lo (hi - lo).toNat, ?_, fun b hb => ?_, q⟩
  · have e1 : lo + ((0 : Nat) : Int) * 1 = lo := by simp
    have e2 : (((hi - lo).toNat : Nat) : Int) - ((0 : Nat) : Int) = Builtin.Range.rangeSize lo hi 1 := by rw [rangeSize_one]; split <;> omega
    show IsRangeIter _ _ (lo + ((0 : Nat) : Int) * 1) ((((hi - lo).toNat : Nat) : Int) - ((0 : Nat) : Int)) 1
    rw [e1, e2]
    exact Heap.get?_push_size _ rfl
  · have e : b = (s.heap.push { cls := .type "range", data := .fields #[.int lo t, .int hi u, .int 1 v] }).objs.size := by simpa using hb
    subst e
    exact I1.fpOk (Nat.le_refl _) (I1.hok.fresh (Nat.le_refl _))
def iRng1 (ta : TA) : TI := fun σ H R => ta σ H fun vs H1 => ∃ j : Int, vs = [.int j] ∧ -(2 ^ 62) ≤ j ∧ j < 2 ^ 62 ∧ R (Itr 0 j.toNat) H1
def iRng2 (ta : TA) : TI := fun σ H R => ta σ H fun vs H1 => ∃ i j : Int, vs = [.int i, .int j] ∧ (-(2 ^ 62) ≤ i ∧ i < 2 ^ 62 ∧ -(2 ^ 62) ≤ j ∧ j < 2 ^ 62) ∧ R (Itr i (j - i).toNat) H1
theorem pi_range1 {a : Expr} {ta : TA} {p pos : Pos} (hg : Gl X "range") (hm : X.mg "range" = none) (ha : PA X [a] ta) (hs : starEach [a] X.env = [(false, eval a X.env)] := by rfl) : PI X tg (.Call (.Name "range" p) [a] [] pos) (iRng1 ta) := by
  intro pins s σ H R I h
  refine Call_ (ld_blt I hg hm boot_range (PyProof.Rows.callWith_type1 (thn (ha pos pins s σ H _ I h) fun us s1 ⟨vs, H1, I1, r1, q1⟩ => ?_) hs rfl))
  obtain ⟨j, e, q1, q2, q⟩ := q1
  subst e
  cases r1 with
  | cons r rr =>
    cases rr
    obtain ⟨t, rfl⟩ := r
    exact call_range_1 (range_it I1 (by omega) (by omega) q1 q2 (by simpa using q))
theorem pi_range2 {a b : Expr} {ta : TA} {p pos : Pos} (hg : Gl X "range") (hm : X.mg "range" = none) (ha : PA X [a, b] ta) (hs : starEach [a, b] X.env = [(false, eval a X.env), (false, eval b X.env)] := by rfl) (hs2 : starEach [b] X.env = [(false, eval b X.env)] := by rfl) :
    PI X tg (.Call (.Name "range" p) [a, b] [] pos) (iRng2 ta) := by
  intro pins s σ H R I h
  refine Call_ (ld_blt I hg hm boot_range (PyProof.Rows.callWith_type1 (thn (ha pos pins s σ H _ I h) fun us s1 ⟨vs, H1, I1, r1, q1⟩ => ?_) (by rw [hs, hs2]) (by rw [hs2]; rfl)))
  obtain ⟨i, j, e, ⟨q1, q2, q3, q4⟩, q⟩ := q1
  subst e
  cases r1 with
  | cons r rr =>
    cases rr with
    | cons r' rr =>
      cases rr
      obtain ⟨t, rfl⟩ := r
      obtain ⟨t', rfl⟩ := r'
      exact call_range_2 (range_it I1 q1 q2 q3 q4 q)

/-! ### for -/
/-- W: the invariant by the turn and a measure; N: what the body is to reach -/
def tFor (wi : TI) (g : TG) (tb : TS) : TS := fun D σ H => wi σ H fun J H1 => ∃ W : Nat → Nat → St → Hp → Prop, (∃ m, W 0 m σ H1) ∧ ∀ i m σ H, W i m σ H →
  (J.stop i H ∧ D.nx σ H) ∨ (J.go i H ∧ ∃ N : St → Hp → Prop, (∀ σ' H', N σ' H' → ∃ m', m' < m ∧ W (i + 1) m' σ' H') ∧ ∀ x H', J.yld i H x H' → g x σ H' fun σ2 H2 => tb { D with nx := N, ct := N, bk := D.nx } σ2 H2)
/-- the records at fp as they stand -/
def pinsAt (fp : List Addr) (h : Heap) : List (Addr × Obj) := fp.filterMap fun b => (h.get? b).map fun o => (b, o)
theorem mem_pinsAt {fp : List Addr} {h : Heap} {b : Addr} {o : Obj} (hb : b ∈ fp) (e : h.get? b = some o) : (b, o) ∈ pinsAt fp h := List.mem_filterMap.mpr ⟨b, hb, by rw [e]; rfl⟩
theorem of_pinsAt {fp : List Addr} {h : Heap} {p : Addr × Obj} (hp : p ∈ pinsAt fp h) : p.1 ∈ fp ∧ h.get? p.1 = some p.2 := by
  obtain ⟨b, hb, e⟩ := List.mem_filterMap.mp hp
  cases q : h.get? b with
  | none => rw [q] at e; cases e
  | some o =>
    rw [q] at e
    have e' : (b, o) = p := Option.some.inj e
    subst e'
    exact ⟨hb, q⟩
theorem Inv.pinned {pins : List (Addr × Obj)} {σ : St} {H : Hp} {s : Shared} {fp : List Addr} (I : Inv X pins σ H s) (hf : ∀ b ∈ fp, FpOk X pins H b) (ho : ∀ b ∈ fp, ∃ o, s.heap.get? b = some o ∧ ∀ v, o.data ≠ .cell v) : Inv X (pins ++ pinsAt fp s.heap) σ H s :=
  I.pins_of fun p hp => (List.mem_append.mp hp).elim (fun z => I.pin p (List.mem_append_right _ z)) fun z => by
    obtain ⟨hb, e⟩ := of_pinsAt z
    obtain ⟨f0, f1, f2, _⟩ := hf p.1 hb
    obtain ⟨o, e', d⟩ := ho p.1 hb
    rw [e] at e'; cases e'
    exact ⟨e, f0, f1, f2, d⟩
theorem Inv.unpinned {pins pl : List (Addr × Obj)} {σ : St} {H : Hp} {s : Shared} (I : Inv X (pins ++ pl) σ H s) : Inv X pins σ H s := I.pins_of fun p hp => I.pin p (List.mem_append_right _ (List.mem_append_left _ hp))
theorem ps_for {iter : Expr} {body : List Stmt} {wi : TI} {g : TG} {tb : TS} {pos : Pos} (hp : PassesOwn (model X.prog X.w) X.A X.env X.xe) (hc : X.calm = true) (hi : PI X tg iter wi) (hg : PG X tg g) (hb : PSs X body tb)
    (hs : ∀ x, foldedSetIterable iter X.env x = pure x := by intro _; rfl) : PS X (.For tg iter body [] pos) (tFor wi g tb) := by
  intro pins s σ H D I h
  refine wpAny_For (thn (hi pins s σ H _ I h) fun v s1 h1 => thn h1 fun itv s2 h2 => ?_) hs
  obtain ⟨it, fp, tn, J, H2, e, I2, T, st2, f2, W, ⟨m0, w0⟩, turn⟩ := h2
  subst e
  -- what stays true of the iterator's objects through the loop
  have stat : ∀ {H' : Hp}, (∀ b ∈ fp, H' b = none) → ∀ b ∈ fp, FpOk X pins H' b := fun hn b hb => ⟨hn b hb, (f2 b hb).2⟩
  refine codeAny_forLoop_any (fun n s' => ∃ i σ' H', Inv X pins σ' H' s' ∧ tn i s'.heap ∧ (∀ b ∈ fp, H' b = none) ∧ W i n σ' H') ?_ m0 ⟨0, σ, H2, I2, st2, fun b hb => (f2 b hb).1, w0⟩
  rintro n s3 ⟨i, σ3, H3, I3, st3, fr3, w3⟩
  rcases turn i n σ3 H3 w3 with ⟨stop, qn⟩ | ⟨go, N, hN, step⟩
  · refine wpAny_passesOwn hp (thn (T.done X rfl rfl rfl hc i pins s3 σ3 H3 X.xe I3 (stat fr3) st3 stop) fun r s4 ⟨hr, I4⟩ => ?_)
    subst hr
    exact wpAny_execs_nil ⟨σ3, H3, I4, qn⟩
  · refine wpAny_passesOwn hp (thn (T.item X rfl rfl rfl hc i pins s3 σ3 H3 X.xe I3 (stat fr3) st3 go) fun r s4 ⟨u, hr, h4⟩ => ?_)
    subst hr
    refine wpAny_passesOwn hp (thn h4 fun _ s5 ⟨x, H5, I5, r5, y5, st5, fr5⟩ => ?_)
    have I5' := I5.pinned (stat fr5) (T.obj _ _ st5)
    refine wpAny_passesOwn hp (thn (hg _ s5 σ3 H5 x u _ I5' r5 (step x H5 y5)) fun _ s6 ⟨σ6, H6, I6, q6⟩ => ?_)
    refine wpAny_passesOwn hp (thn (hb _ s6 σ6 H6 _ I6 q6) fun f s7 q7 => ?_)
    have again : ∀ {σ7 : St} {H7 : Hp}, Inv X (pins ++ pinsAt fp s5.heap) σ7 H7 s7 → N σ7 H7 → ∃ m, m < n ∧ ∃ i σ' H', Inv X pins σ' H' s7 ∧ tn i s7.heap ∧ (∀ b ∈ fp, H' b = none) ∧ W i m σ' H' := fun {σ7 H7} I7 n7 => by
      obtain ⟨m', hm, w7⟩ := hN σ7 H7 n7
      refine ⟨m', hm, i + 1, σ7, H7, I7.unpinned, T.keep _ _ _ st5 fun b hb o e => (I7.pin (b, o) (List.mem_append_right _ (List.mem_append_right _ (mem_pinsAt hb e)))).1, fun b hb => ?_, w7⟩
      obtain ⟨o, e, d⟩ := T.obj _ _ st5 b hb
      exact (I7.pin (b, o) (List.mem_append_right _ (List.mem_append_right _ (mem_pinsAt hb e)))).2.1
    cases f with
    | next => obtain ⟨σ7, H7, I7, n7⟩ := q7; exact again I7 n7
    | cont => obtain ⟨σ7, H7, I7, n7⟩ := q7; exact again I7 n7
    | brk => obtain ⟨σ7, H7, I7, q7⟩ := q7; exact ⟨σ7, H7, I7.unpinned, q7⟩
    | ret v => obtain ⟨x7, σ7, H7, I7, r7, q7⟩ := q7; exact ⟨x7, σ7, H7, I7.unpinned, r7, q7⟩
end

/-! ### the forms one uses -/
/-- over a list that the body leaves as it is -/
theorem for_list {K : PySem.W.Frag} {a : Addr} {xs : List V} {g : TG} {tb : TS} {D : Ends} {σ : St} {H : Hp} (Pv : Nat → St → Hp → Prop) (h0 : Pv 0 σ H) (hl : ∀ i σ H, i ≤ xs.length → Pv i σ H → SqL K H a xs)
    (hs : ∀ i x σ H, xs[i]? = some x → Pv i σ H → g x σ H fun σ2 H2 => tb { D with nx := Pv (i + 1), ct := Pv (i + 1), bk := D.nx } σ2 H2) (hd : ∀ σ H, Pv xs.length σ H → D.nx σ H) :
    ∃ W : Nat → Nat → St → Hp → Prop, (∃ m, W 0 m σ H) ∧ ∀ i m σ H, W i m σ H →
      ((Itl K a).stop i H ∧ D.nx σ H) ∨ ((Itl K a).go i H ∧ ∃ N : St → Hp → Prop, (∀ σ' H', N σ' H' → ∃ m', m' < m ∧ W (i + 1) m' σ' H') ∧ ∀ x H', (Itl K a).yld i H x H' → g x σ H' fun σ2 H2 => tb { D with nx := N, ct := N, bk := D.nx } σ2 H2) := by
  refine ⟨fun i m σ H => m = xs.length - i ∧ i ≤ xs.length ∧ Pv i σ H, ⟨xs.length, by simp, Nat.zero_le _, h0⟩, ?_⟩
  rintro i m σ H ⟨rfl, hi, p⟩
  have q := hl i σ H hi p
  by_cases hlt : i < xs.length
  · refine .inr ⟨⟨xs, xs[i], q, by simp [hlt]⟩, Pv (i + 1), fun σ' H' p' => ⟨xs.length - (i + 1), by omega, rfl, hlt, p'⟩, fun x H' y => ?_⟩
    obtain ⟨e, y⟩ := y
    subst e
    exact hs i x σ _ (y xs q) p
  · have e : i = xs.length := by omega
    subst e
    exact .inl ⟨⟨xs, q, Nat.le_refl _⟩, hd σ H p⟩
theorem for_tup {K : PySem.W.Frag} {a : Addr} {xs : List V} {g : TG} {tb : TS} {D : Ends} {σ : St} {H : Hp} (Pv : Nat → St → Hp → Prop) (h0 : Pv 0 σ H) (hl : ∀ i σ H, i ≤ xs.length → Pv i σ H → SqT K H a xs)
    (hs : ∀ i x σ H, xs[i]? = some x → Pv i σ H → g x σ H fun σ2 H2 => tb { D with nx := Pv (i + 1), ct := Pv (i + 1), bk := D.nx } σ2 H2) (hd : ∀ σ H, Pv xs.length σ H → D.nx σ H) :
    ∃ W : Nat → Nat → St → Hp → Prop, (∃ m, W 0 m σ H) ∧ ∀ i m σ H, W i m σ H →
      ((Itt K a).stop i H ∧ D.nx σ H) ∨ ((Itt K a).go i H ∧ ∃ N : St → Hp → Prop, (∀ σ' H', N σ' H' → ∃ m', m' < m ∧ W (i + 1) m' σ' H') ∧ ∀ x H', (Itt K a).yld i H x H' → g x σ H' fun σ2 H2 => tb { D with nx := N, ct := N, bk := D.nx } σ2 H2) := by
  refine ⟨fun i m σ H => m = xs.length - i ∧ i ≤ xs.length ∧ Pv i σ H, ⟨xs.length, by simp, Nat.zero_le _, h0⟩, ?_⟩
  rintro i m σ H ⟨rfl, hi, p⟩
  have q := hl i σ H hi p
  by_cases hlt : i < xs.length
  · refine .inr ⟨⟨xs, xs[i], q, by simp [hlt]⟩, Pv (i + 1), fun σ' H' p' => ⟨xs.length - (i + 1), by omega, rfl, hlt, p'⟩, fun x H' y => ?_⟩
    obtain ⟨e, y⟩ := y
    subst e
    exact hs i x σ _ (y xs q) p
  · have e : i = xs.length := by omega
    subst e
    exact .inl ⟨⟨xs, q, Nat.le_refl _⟩, hd σ H p⟩
theorem for_range {lo : Int} {n : Nat} {g : TG} {tb : TS} {D : Ends} {σ : St} {H : Hp} (Pv : Nat → St → Hp → Prop) (h0 : Pv 0 σ H)
    (hs : ∀ i σ H, i < n → Pv i σ H → g (.int (lo + i)) σ H fun σ2 H2 => tb { D with nx := Pv (i + 1), ct := Pv (i + 1), bk := D.nx } σ2 H2) (hd : ∀ σ H, Pv n σ H → D.nx σ H) :
    ∃ W : Nat → Nat → St → Hp → Prop, (∃ m, W 0 m σ H) ∧ ∀ i m σ H, W i m σ H →
      ((Itr lo n).stop i H ∧ D.nx σ H) ∨ ((Itr lo n).go i H ∧ ∃ N : St → Hp → Prop, (∀ σ' H', N σ' H' → ∃ m', m' < m ∧ W (i + 1) m' σ' H') ∧ ∀ x H', (Itr lo n).yld i H x H' → g x σ H' fun σ2 H2 => tb { D with nx := N, ct := N, bk := D.nx } σ2 H2) := by
  refine ⟨fun i m σ H => m = n - i ∧ i ≤ n ∧ Pv i σ H, ⟨n, by simp, Nat.zero_le _, h0⟩, ?_⟩
  rintro i m σ H ⟨rfl, hi, p⟩
  by_cases hlt : i < n
  · refine .inr ⟨hlt, Pv (i + 1), fun σ' H' p' => ⟨n - (i + 1), by omega, rfl, hlt, p'⟩, fun x H' y => ?_⟩
    obtain ⟨e, y⟩ := y
    subst e y
    exact hs i σ _ hlt p
  · have e : i = n := by omega
    subst e
    exact .inl ⟨Nat.le_refl _, hd σ H p⟩
/-- while, by a word and a measure of the state -/
theorem while_by {c : TT} {tb : TS} {D : Ends} {σ : St} {H : Hp} (Pv : St → Hp → Prop) (μ : St → Hp → Nat) (h0 : Pv σ H)
    (hs : ∀ σ H, Pv σ H → c σ H fun b H1 => if b = true then tb { D with nx := fun σ' H' => Pv σ' H' ∧ μ σ' H' < μ σ H, ct := fun σ' H' => Pv σ' H' ∧ μ σ' H' < μ σ H, bk := D.nx } σ H1 else D.nx σ H1)
    (mono : ∀ σ H Q Q', (∀ b H1, Q b H1 → Q' b H1) → c σ H Q → c σ H Q') : tWhile c tb D σ H := by
  refine ⟨fun m σ H => m = μ σ H ∧ Pv σ H, ⟨_, rfl, h0⟩, ?_⟩
  rintro m σ H ⟨rfl, p⟩
  refine mono σ H _ _ (fun b H1 q => ?_) (hs σ H p)
  cases b with
  | true => exact ⟨_, fun σ' H' ⟨p', l⟩ => ⟨_, l, rfl, p'⟩, q⟩
  | false => exact q
end L2

namespace L2
open PySem PySem.Spec PyProof.Rows

abbrev R2 := V → V → Hp → VK → Prop
/-- a two-place operation on values: f is binaryOp op, inplaceOp op or compareOp op -/
def OpR (X : Cx) (f : Value → Value → Sem Value) (r : R2) : Prop :=
  ∀ (pins : List (Addr × Obj)) (s : Shared) (σ : St) (H : Hp) (x y : V) (v u : Value) (Q : VK), Inv X pins σ H s → RelV x v → RelV y u → r x y H Q →
    wpAny (model X.prog X.w) X.A (f v u) (EP X pins σ Q) X.xe s
/-- a one-place operation -/
def UnR (X : Cx) (f : Value → Sem Value) (r : V → Hp → VK → Prop) : Prop :=
  ∀ (pins : List (Addr × Obj)) (s : Shared) (σ : St) (H : Hp) (x : V) (v : Value) (Q : VK), Inv X pins σ H s → RelV x v → r x H Q →
    wpAny (model X.prog X.w) X.A (f v) (EP X pins σ Q) X.xe s
/-- a call of a value that is known (a builtin, a type) with values -/
def CallR (X : Cx) (f : Value) (r : List V → Hp → VK → Prop) : Prop :=
  ∀ (pins : List (Addr × Obj)) (s : Shared) (σ : St) (H : Hp) (xs : List V) (us : List Value) (Q : VK), Inv X pins σ H s → Vals xs us → r xs H Q →
    wpAny (model X.prog X.w) X.A (call f us) (EP X pins σ Q) X.xe s
/-- a value's truth -/
def TruR (X : Cx) (r : V → Hp → (Bool → Hp → Prop) → Prop) : Prop :=
  ∀ (pins : List (Addr × Obj)) (s : Shared) (σ : St) (H : Hp) (x : V) (v : Value) (Q : Bool → Hp → Prop), Inv X pins σ H s → RelV x v → r x H Q →
    wpAny (model X.prog X.w) X.A (truthy v) (TP X pins σ Q) X.xe s

def tOp (r : R2) (ta tb : TE) : TE := fun σ H Q => ta σ H fun x H1 => tb σ H1 fun y H2 => r x y H2 Q
def tUn (r : V → Hp → VK → Prop) (ta : TE) : TE := fun σ H Q => ta σ H fun x H1 => r x H1 Q
/-- ints in, under C, and a value out -/
def rI (C : Int → Int → Prop) (g : Int → Int → V) : R2 := fun x y H Q => ∃ i j, x = .int i ∧ y = .int j ∧ C i j ∧ Q (g i j) H
def rI0 (g : Int → Int → V) : R2 := fun x y H Q => ∃ i j, x = .int i ∧ y = .int j ∧ Q (g i j) H
def rU (g : Int → V) : V → Hp → VK → Prop := fun x H Q => ∃ i, x = .int i ∧ Q (g i) H

section
variable {X : Cx} {a b c : Expr} {ta tb tc : TE} {pos : Pos}

theorem binT (ha : PE X a ta) (hb : PE X b tb) {pins : List (Addr × Obj)} {s : Shared} {σ : St} {H : Hp} {R : V → V → Hp → Prop} (I : Inv X pins σ H s)
    (h : ta σ H fun x H1 => tb σ H1 fun y H2 => R x y H2) {Q : Value → Shared → Prop} {f : Value → Value → Sem Value}
    (hf : ∀ v u s2 x y H2, Inv X pins σ H2 s2 → RelV x v → RelV y u → R x y H2 → wpAny (model X.prog X.w) X.A (f v u) Q X.xe s2) :
    wpAny (model X.prog X.w) X.A (eval a X.env) (fun v s₁ => wpAny (model X.prog X.w) X.A (eval b X.env) (fun u s₂ => wpAny (model X.prog X.w) X.A (f v u) Q X.xe s₂) X.xe s₁) X.xe s := by
  refine thn (ha pins s σ H _ I h) fun v s1 ⟨x, H1, I1, r1, q1⟩ => ?_
  refine thn (hb pins s1 σ H1 _ I1 q1) fun u s2 ⟨y, H2, I2, r2, q2⟩ => ?_
  exact hf v u s2 x y H2 I2 r1 r2 q2

theorem pe_op {op : Operator} {r : R2} (ho : OpR X (binaryOp op) r) (ha : PE X a ta) (hb : PE X b tb) : PE X (.BinOp a op b pos) (tOp r ta tb) := by
  intro pins s σ H Q I h
  exact wpAny_BinOp (binT ha hb I h fun v u s2 x y H2 I2 rx ry q => ho pins s2 σ H2 x y v u Q I2 rx ry q)
theorem pe_un {op : UnaryOp} {r : V → Hp → VK → Prop} (ho : UnR X (unaryOp op) r) (ha : PE X a ta) : PE X (.UnaryOp op a pos) (tUn r ta) := by
  intro pins s σ H Q I h
  exact UnaryOp_ (thn (ha pins s σ H _ I h) fun v s1 ⟨x, H1, I1, r1, q1⟩ => ho pins s1 σ H1 x v Q I1 r1 q1)
/-- a op= e at a name: the name's slot i -/
theorem augR {op : Operator} {r : R2} (ho : OpR X (inplaceOp op) r) {pins : List (Addr × Obj)} {s : Shared} {σ : St} {H : Hp} {x y : V} {v u : Value} {Q : VK} (I : Inv X pins σ H s)
    (rx : RelV x v) (ry : RelV y u) (q : r x y H Q) : wpAny (model X.prog X.w) X.A (inplaceOp op v u) (EP X pins σ Q) X.xe s := ho pins s σ H x y v u Q I rx ry q

/-! ### ints -/
theorem opI {f : Value → Value → Sem Value} {C : Int → Int → Prop} {g : Int → Int → Int}
    (rule : ∀ (i j : Int) (t u : Tok) (s : Shared) (Q : Value → Shared → Prop) (E : Value → Shared → Prop), C i j → Q (.int (g i j) s.toks) { s with toks := s.toks + 1 } → wpAny (model X.prog X.w) X.A (f (.int i t) (.int j u)) Q E s) :
    OpR X f (rI C fun i j => .int (g i j)) := by
  intro pins s σ H x y v u Q I rx ry h
  obtain ⟨i, j, rfl, rfl, hc, q⟩ := h
  obtain ⟨t, rfl⟩ := rx
  obtain ⟨t', rfl⟩ := ry
  exact rule i j t t' s _ _ hc ⟨.int (g i j), H, I.tok _, ⟨_, rfl⟩, q⟩
theorem opI0 {f : Value → Value → Sem Value} {g : Int → Int → Int}
    (rule : ∀ (i j : Int) (t u : Tok) (s : Shared) (Q : Value → Shared → Prop) (E : Value → Shared → Prop), Q (.int (g i j) s.toks) { s with toks := s.toks + 1 } → wpAny (model X.prog X.w) X.A (f (.int i t) (.int j u)) Q E s) :
    OpR X f (rI0 fun i j => .int (g i j)) := by
  intro pins s σ H x y v u Q I rx ry h
  obtain ⟨i, j, rfl, rfl, q⟩ := h
  obtain ⟨t, rfl⟩ := rx
  obtain ⟨t', rfl⟩ := ry
  exact rule i j t t' s _ _ ⟨.int (g i j), H, I.tok _, ⟨_, rfl⟩, q⟩
theorem opB0 {f : Value → Value → Sem Value} {g : Int → Int → Bool}
    (rule : ∀ (i j : Int) (t u : Tok) (s : Shared) (Q : Value → Shared → Prop) (E : Value → Shared → Prop), Q (.bool (g i j)) s → wpAny (model X.prog X.w) X.A (f (.int i t) (.int j u)) Q E s) :
    OpR X f (rI0 fun i j => .bl (g i j)) := by
  intro pins s σ H x y v u Q I rx ry h
  obtain ⟨i, j, rfl, rfl, q⟩ := h
  obtain ⟨t, rfl⟩ := rx
  obtain ⟨t', rfl⟩ := ry
  exact rule i j t t' s _ _ ⟨.bl (g i j), H, I, rfl, q⟩

def CDiv (i j : Int) : Prop := 0 < j ∧ j < 1073741824
def CDivN (i j : Int) : Prop := j ≠ 0 ∧ j.natAbs < 1073741824
def CPow (i j : Int) : Prop := 0 ≤ j ∧ j ≤ 1000000 ∧ i.natAbs < 2 ^ 64
def CMul (i j : Int) : Prop := (-(2 ^ 64) < i ∧ i < 2 ^ 64) ∨ (-(2 ^ 64) < j ∧ j < 2 ^ 64)
theorem CMul.ok {i j : Int} (h : CMul i j) : IntMulOk i j := by
  rcases h with ⟨h1, h2⟩ | ⟨h1, h2⟩
  · exact .of_left (intBits_le_64 h1 h2)
  · exact .of_right (intBits_le_64 h1 h2)
theorem two_pow_nn (k : Nat) : (0 : Int) ≤ 2 ^ k := by
  rw [two_pow_cast]
  exact Int.natCast_nonneg _

theorem op_add : OpR X (binaryOp .Add) (rI0 fun i j => .int (i + j)) := opI0 fun _ _ _ _ _ _ _ q => add_int q
theorem op_sub : OpR X (binaryOp .Sub) (rI0 fun i j => .int (i - j)) := opI0 fun _ _ _ _ _ _ _ q => sub_int q
theorem op_mul : OpR X (binaryOp .Mult) (rI CMul fun i j => .int (i * j)) := opI fun _ _ _ _ _ _ _ hc q => mul_int q hc.ok
/-- // by a positive divisor -/
theorem op_fdiv : OpR X (binaryOp .FloorDiv) (rI CDiv fun i j => .int (i / j)) := opI fun i j _ _ _ _ _ hc q => by
  have h1 : (0 : Int) < j := hc.1
  have h2 : j < 1073741824 := hc.2
  exact floordiv_int (by omega) (by rw [Int.fdiv_eq_ediv_of_nonneg i (by omega)]; exact q) (.inl (PyProof.noPylong_small (by omega)))
theorem op_fdivN : OpR X (binaryOp .FloorDiv) (rI CDivN fun i j => .int (i.fdiv j)) := opI fun _ _ _ _ _ _ _ hc q => floordiv_int hc.1 q (.inl (PyProof.noPylong_small hc.2))
/-- % by a positive divisor of any size -/
theorem op_mod : OpR X (binaryOp .Mod) (rI (fun _ j => 0 < j) fun i j => .int (i % j)) := opI fun i j _ _ _ _ _ hc q => by
  have h1 : (0 : Int) < j := hc
  exact mod_int' (by omega) (by rw [Int.fmod_eq_emod_of_nonneg i (by omega)]; exact q)
theorem op_modN : OpR X (binaryOp .Mod) (rI (fun _ j => j ≠ 0) fun i j => .int (i.fmod j)) := opI fun _ _ _ _ _ _ _ hc q => mod_int' hc q
theorem op_pow : OpR X (binaryOp .Pow) (rI CPow fun i j => .int (i ^ j.toNat)) := opI fun _ _ _ _ _ _ _ hc q => pow_int_small hc.1 hc.2.1 hc.2.2 q
theorem op_shl : OpR X (binaryOp .LShift) (rI CPow fun i j => .int (i * 2 ^ j.toNat)) := opI fun _ _ _ _ _ _ _ hc q => lshift_int_small hc.1 hc.2.1 hc.2.2 q
theorem op_shr : OpR X (binaryOp .RShift) (rI (fun _ j => 0 ≤ j) fun i j => .int (i / 2 ^ j.toNat)) := opI fun i j _ _ _ _ _ hc q =>
  rshift_int hc (by rw [Int.fdiv_eq_ediv_of_nonneg i (two_pow_nn _)]; exact q)
theorem op_and : OpR X (binaryOp .BitAnd) (rI0 fun i j => .int (Builtin.bitAnd i j)) := opI0 fun _ _ _ _ _ _ _ q => and_int q
theorem op_or : OpR X (binaryOp .BitOr) (rI0 fun i j => .int (Builtin.bitOr i j)) := opI0 fun _ _ _ _ _ _ _ q => or_int q
theorem op_xor : OpR X (binaryOp .BitXor) (rI0 fun i j => .int (Builtin.bitXor i j)) := opI0 fun _ _ _ _ _ _ _ q => xor_int q

theorem iop_add : OpR X (inplaceOp .Add) (rI0 fun i j => .int (i + j)) := opI0 fun _ _ _ _ _ _ _ q => iadd_int q
theorem iop_sub : OpR X (inplaceOp .Sub) (rI0 fun i j => .int (i - j)) := opI0 fun _ _ _ _ _ _ _ q => isub_int q
theorem iop_mul : OpR X (inplaceOp .Mult) (rI CMul fun i j => .int (i * j)) := opI fun _ _ _ _ _ _ _ hc q => imul_int q hc.ok
theorem iop_fdiv : OpR X (inplaceOp .FloorDiv) (rI CDiv fun i j => .int (i / j)) := opI fun i j _ _ _ _ _ hc q => by
  have h1 : (0 : Int) < j := hc.1
  have h2 : j < 1073741824 := hc.2
  exact ifloordiv_int (by omega) (by rw [Int.fdiv_eq_ediv_of_nonneg i (by omega)]; exact q) (.inl (PyProof.noPylong_small (by omega)))
theorem iop_mod : OpR X (inplaceOp .Mod) (rI (fun _ j => 0 < j) fun i j => .int (i % j)) := opI fun i j _ _ _ _ _ hc q => by
  have h1 : (0 : Int) < j := hc
  exact imod_int (by omega) (by rw [Int.fmod_eq_emod_of_nonneg i (by omega)]; exact q)
theorem iop_shl : OpR X (inplaceOp .LShift) (rI CPow fun i j => .int (i * 2 ^ j.toNat)) := opI fun _ _ _ _ _ _ _ hc q => ilshift_int_small hc.1 hc.2.1 hc.2.2 q
theorem iop_shr : OpR X (inplaceOp .RShift) (rI (fun _ j => 0 ≤ j) fun i j => .int (i / 2 ^ j.toNat)) := opI fun i j _ _ _ _ _ hc q =>
  irshift_int hc (by rw [Int.fdiv_eq_ediv_of_nonneg i (two_pow_nn _)]; exact q)
theorem iop_and : OpR X (inplaceOp .BitAnd) (rI0 fun i j => .int (Builtin.bitAnd i j)) := opI0 fun _ _ _ _ _ _ _ q => iand_int q
theorem iop_or : OpR X (inplaceOp .BitOr) (rI0 fun i j => .int (Builtin.bitOr i j)) := opI0 fun _ _ _ _ _ _ _ q => ior_int q
theorem iop_xor : OpR X (inplaceOp .BitXor) (rI0 fun i j => .int (Builtin.bitXor i j)) := opI0 fun _ _ _ _ _ _ _ q => ixor_int q

theorem unI {f : Value → Sem Value} {g : Int → Int}
    (rule : ∀ (i : Int) (t : Tok) (s : Shared) (Q : Value → Shared → Prop) (E : Value → Shared → Prop), Q (.int (g i) s.toks) { s with toks := s.toks + 1 } → wpAny (model X.prog X.w) X.A (f (.int i t)) Q E s) :
    UnR X f (rU fun i => .int (g i)) := by
  intro pins s σ H x v Q I rx h
  obtain ⟨i, rfl, q⟩ := h
  obtain ⟨t, rfl⟩ := rx
  exact rule i t s _ _ ⟨.int (g i), H, I.tok _, ⟨_, rfl⟩, q⟩
theorem un_neg : UnR X (unaryOp .USub) (rU fun i => .int (-i)) := unI fun _ _ _ _ _ q => neg_int q
theorem un_inv : UnR X (unaryOp .Invert) (rU fun i => .int (Builtin.bitNot i)) := unI fun _ _ _ _ _ q => invert_int q

/-! ### bools among ints: n += (a < b) -/
theorem op_add_ib : OpR X (binaryOp .Add) (fun x y H Q => ∃ i k, x = .int i ∧ y = .bl k ∧ Q (.int (i + b2i k)) H) := by
  intro pins s σ H x y v u Q I rx ry h
  obtain ⟨i, k, rfl, rfl, q⟩ := h
  obtain ⟨t, rfl⟩ := rx
  cases ry
  exact add_int_bool ⟨.int (i + b2i k), H, I.tok _, ⟨_, rfl⟩, q⟩
end

/-! ### comparisons -/
/-- the scalars that == tells apart as data does -/
def scal : V → V → Bool
  | .non, .non => true | .non, .int _ => true | .int _, .non => true | .non, .bl _ => true | .bl _, .non => true | .non, .str _ => true | .str _, .non => true
  | .int _, .int _ => true | .bl _, .bl _ => true | .str _, .str _ => true | .byt _, .byt _ => true
  | .int _, .str _ => true | .str _, .int _ => true | .bl _, .str _ => true | .str _, .bl _ => true
  | _, _ => false
def rEq : R2 := fun x y H Q => scal x y = true ∧ Q (.bl (decide (x = y))) H
def rNe : R2 := fun x y H Q => scal x y = true ∧ Q (.bl (!decide (x = y))) H

theorem dec_int {i j : Int} : decide (V.int i = V.int j) = (i == j) := by
  rw [Bool.eq_iff_iff]
  simp
theorem dec_bl {i j : Bool} : decide (V.bl i = V.bl j) = (i == j) := by
  rw [Bool.eq_iff_iff]
  simp
theorem dec_str {i j : Str} : decide (V.str i = V.str j) = (i == j) := by
  rw [Bool.eq_iff_iff]
  simp
theorem dec_byt {i j : Array UInt8} : decide (V.byt i = V.byt j) = (i.toList == j.toList) := by
  rw [Bool.eq_iff_iff]
  cases i
  cases j
  simp

section
variable {X : Cx} {a b c : Expr} {ta tb tc : TE} {pos : Pos}
theorem fin_bl {pins : List (Addr × Obj)} {σ : St} {H : Hp} {s : Shared} {Q : VK} {k k' : Bool} (I : Inv X pins σ H s) (q : Q (.bl k) H) (e : k = k') : EP X pins σ Q (.bool k') s := by
  subst e
  exact ⟨.bl k, H, I, rfl, q⟩
theorem op_eq : OpR X (compareOp .Eq) rEq := by
  intro pins s σ H x y v u Q I rx ry h
  obtain ⟨hs, q⟩ := h
  cases x with
  | non =>
    cases rx
    cases y with
    | non => cases ry; exact PySem.EqNone.eq_none_none (fin_bl I q (by simp))
    | bl j => cases ry; exact PySem.EqNone.eq_none_bool (fin_bl I q (by simp))
    | int j => obtain ⟨t', rfl⟩ := ry; exact PySem.EqNone.eq_none_int (fin_bl I q (by simp))
    | str j => obtain ⟨t', rfl⟩ := ry; exact PySem.EqNone.eq_none_str (fin_bl I q (by simp))
    | _ => exact absurd (show false = true from hs) Bool.false_ne_true
  | bl i =>
    cases rx
    cases y with
    | non => cases ry; exact PySem.EqNone.eq_bool_none (fin_bl I q (by simp))
    | bl j => cases ry; exact eq_bool (fin_bl I q dec_bl)
    | str j => obtain ⟨t', rfl⟩ := ry; exact PySem.EqMixed.eq_bool_str (fin_bl I q (by simp))
    | _ => exact absurd (show false = true from hs) Bool.false_ne_true
  | int i =>
    obtain ⟨t, rfl⟩ := rx
    cases y with
    | non => cases ry; exact PySem.EqNone.eq_int_none (fin_bl I q (by simp))
    | int j => obtain ⟨t', rfl⟩ := ry; exact eq_int (fin_bl I q dec_int)
    | str j => obtain ⟨t', rfl⟩ := ry; exact PySem.EqMixed.eq_int_str (fin_bl I q (by simp))
    | _ => exact absurd (show false = true from hs) Bool.false_ne_true
  | str i =>
    obtain ⟨t, rfl⟩ := rx
    cases y with
    | non => cases ry; exact PySem.EqNone.eq_str_none (fin_bl I q (by simp))
    | bl j => cases ry; exact PySem.EqMixed.eq_str_bool (fin_bl I q (by simp))
    | int j => obtain ⟨t', rfl⟩ := ry; exact PySem.EqMixed.eq_str_int (fin_bl I q (by simp))
    | str j => obtain ⟨t', rfl⟩ := ry; exact eq_str (fin_bl I q dec_str)
    | _ => exact absurd (show false = true from hs) Bool.false_ne_true
  | byt i =>
    obtain ⟨t, rfl⟩ := rx
    cases y with
    | byt j => obtain ⟨t', rfl⟩ := ry; exact PySem.W.eq_bytes (fin_bl I q dec_byt)
    | _ => exact absurd (show false = true from hs) Bool.false_ne_true
  | _ => cases y <;> exact absurd (show false = true from hs) Bool.false_ne_true
theorem op_ne : OpR X (compareOp .NotEq) rNe := by
  intro pins s σ H x y v u Q I rx ry h
  obtain ⟨hs, q⟩ := h
  cases x with
  | non =>
    cases rx
    cases y with
    | non => cases ry; exact PySem.EqNone.ne_none_none (fin_bl I q (by simp))
    | bl j => cases ry; exact PySem.EqNone.ne_none_bool (fin_bl I q (by simp))
    | int j => obtain ⟨t', rfl⟩ := ry; exact PySem.EqNone.ne_none_int (fin_bl I q (by simp))
    | str j => obtain ⟨t', rfl⟩ := ry; exact PySem.EqNone.ne_none_str (fin_bl I q (by simp))
    | _ => exact absurd (show false = true from hs) Bool.false_ne_true
  | bl i =>
    cases rx
    cases y with
    | non => cases ry; exact PySem.EqNone.ne_bool_none (fin_bl I q (by simp))
    | bl j => cases ry; exact ne_bool (fin_bl I q (congrArg not dec_bl))
    | str j => obtain ⟨t', rfl⟩ := ry; exact PySem.EqMixed.ne_bool_str (fin_bl I q (by simp))
    | _ => exact absurd (show false = true from hs) Bool.false_ne_true
  | int i =>
    obtain ⟨t, rfl⟩ := rx
    cases y with
    | non => cases ry; exact PySem.EqNone.ne_int_none (fin_bl I q (by simp))
    | int j => obtain ⟨t', rfl⟩ := ry; exact ne_int (fin_bl I q (congrArg not dec_int))
    | str j => obtain ⟨t', rfl⟩ := ry; exact PySem.EqMixed.ne_int_str (fin_bl I q (by simp))
    | _ => exact absurd (show false = true from hs) Bool.false_ne_true
  | str i =>
    obtain ⟨t, rfl⟩ := rx
    cases y with
    | non => cases ry; exact PySem.EqNone.ne_str_none (fin_bl I q (by simp))
    | bl j => cases ry; exact PySem.EqMixed.ne_str_bool (fin_bl I q (by simp))
    | int j => obtain ⟨t', rfl⟩ := ry; exact PySem.EqMixed.ne_str_int (fin_bl I q (by simp))
    | str j => obtain ⟨t', rfl⟩ := ry; exact ne_str (fin_bl I q (congrArg not dec_str))
    | _ => exact absurd (show false = true from hs) Bool.false_ne_true
  | byt i =>
    obtain ⟨t, rfl⟩ := rx
    cases y with
    | byt j => obtain ⟨t', rfl⟩ := ry; exact PySem.W.ne_bytes (fin_bl I q (congrArg not dec_byt))
    | _ => exact absurd (show false = true from hs) Bool.false_ne_true
  | _ => cases y <;> exact absurd (show false = true from hs) Bool.false_ne_true

theorem op_lt : OpR X (compareOp .Lt) (rI0 fun i j => .bl (decide (i < j))) := opB0 fun _ _ _ _ _ _ _ q => lt_int q
theorem op_le : OpR X (compareOp .LtE) (rI0 fun i j => .bl (decide (i ≤ j))) := opB0 fun _ _ _ _ _ _ _ q => le_int q
theorem op_gt : OpR X (compareOp .Gt) (rI0 fun i j => .bl (decide (j < i))) := opB0 fun _ _ _ _ _ _ _ q => gt_int q
theorem op_ge : OpR X (compareOp .GtE) (rI0 fun i j => .bl (decide (j ≤ i))) := opB0 fun _ _ _ _ _ _ _ q => ge_int q
theorem op_lt_str : OpR X (compareOp .Lt) (fun x y H Q => ∃ i j, x = .str i ∧ y = .str j ∧ Q (.bl (decide (i.cps.toList < j.cps.toList))) H) := by
  intro pins s σ H x y v u Q I rx ry h
  obtain ⟨i, j, rfl, rfl, q⟩ := h
  obtain ⟨t, rfl⟩ := rx
  obtain ⟨t', rfl⟩ := ry
  exact lt_str (fin_bl I q rfl)
/-- the one string within the other -/
theorem op_in_str : OpR X (compareOp .In) (fun x y H Q => ∃ i j, x = .str i ∧ y = .str j ∧ Q (.bl (!(Builtin.Str.occurrences j i 0 j.length 1).isEmpty)) H) := by
  intro pins s σ H x y v u Q I rx ry h
  obtain ⟨i, j, rfl, rfl, q⟩ := h
  obtain ⟨t, rfl⟩ := rx
  obtain ⟨t', rfl⟩ := ry
  exact in_str (fin_bl I q rfl)

/-- is None, is not None: the right side a value none -/
theorem op_isN : OpR X (compareOp .Is) (fun x y H Q => y = .non ∧ Q (.bl (decide (x = .non))) H) := by
  intro pins s σ H x y v u Q I rx ry h
  obtain ⟨rfl, q⟩ := h
  cases ry
  refine is_none_gen (fin_bl I q ?_)
  cases x <;> first
    | (cases rx; rfl)
    | (obtain ⟨t, rfl⟩ := rx; rfl)
theorem op_notN : OpR X (compareOp .IsNot) (fun x y H Q => y = .non ∧ Q (.bl (!decide (x = .non))) H) := by
  intro pins s σ H x y v u Q I rx ry h
  obtain ⟨rfl, q⟩ := h
  cases ry
  refine isnot_none_gen (fin_bl I q ?_)
  cases x <;> first
    | (cases rx; rfl)
    | (obtain ⟨t, rfl⟩ := rx; rfl)

theorem op_notin_str : OpR X (compareOp .NotIn) (fun x y H Q => ∃ i j, x = .str i ∧ y = .str j ∧ Q (.bl (!(!(Builtin.Str.occurrences j i 0 j.length 1).isEmpty))) H) := by
  intro pins s σ H x y v u Q I rx ry h
  obtain ⟨i, j, rfl, rfl, q⟩ := h
  obtain ⟨t, rfl⟩ := rx
  obtain ⟨t', rfl⟩ := ry
  exact notIn_str (fin_bl I q rfl)
/-- is, is not of two objects that are tracked lists or instances -/
def isObj : HO → Bool
  | .lst _ => true
  | .ins _ _ _ => true
  | _ => false
theorem obj_there {pins : List (Addr × Obj)} {s : Shared} {σ : St} {H : Hp} {a : Addr} {o : HO} (I : Inv X pins σ H s) (h : H a = some o) (p : isObj o = true) : ∃ ob, s.heap.get? a = some ob ∧ ob.cls ≠ .type "tuple" := by
  cases o with
  | lst xs =>
    obtain ⟨_, its, n, _, e⟩ : xs.length ≤ sizeLine ∧ ∃ (its : List Value) (n : Nat), Vals xs its ∧ s.heap.get? a = some { cls := .type "list", data := .seq its.toArray n } := I.hok a _ h
    exact ⟨_, e, (by show Value.type "list" ≠ .type "tuple"; decide +kernel)⟩
  | ins C dx fs =>
    have x := I.hok a _ h
    obtain ⟨_, _, _, e, _⟩ := x
    exact ⟨_, e, (by show Value.ref C ≠ .type "tuple"; exact fun z => by cases z)⟩
  | _ => exact absurd (show false = true from p) Bool.false_ne_true
theorem op_is_ref : OpR X (compareOp .Is) (fun x y H Q => ∃ a b oa ob, x = .ref a ∧ y = .ref b ∧ H a = some oa ∧ isObj oa = true ∧ H b = some ob ∧ isObj ob = true ∧ Q (.bl (decide (a = b))) H) := by
  intro pins s σ H x y v u Q I rx ry h
  obtain ⟨a, b, oa, ob, rfl, rfl, ha, pa, hb, pb, q⟩ := h
  cases rx
  cases ry
  obtain ⟨o1, e1, n1⟩ := obj_there I ha pa
  obtain ⟨o2, e2, _⟩ := obj_there I hb pb
  by_cases z : a = b
  · subst z
    exact wpAny_is_ref_self (fin_bl I q (by simp))
  · exact wpAny_is_ref_other z e1 e2 n1 (fin_bl I q (by simp [z]))
theorem op_isnot_ref : OpR X (compareOp .IsNot) (fun x y H Q => ∃ a b oa ob, x = .ref a ∧ y = .ref b ∧ H a = some oa ∧ isObj oa = true ∧ H b = some ob ∧ isObj ob = true ∧ Q (.bl (!decide (a = b))) H) := by
  intro pins s σ H x y v u Q I rx ry h
  obtain ⟨a, b, oa, ob, rfl, rfl, ha, pa, hb, pb, q⟩ := h
  cases rx
  cases ry
  obtain ⟨o1, e1, n1⟩ := obj_there I ha pa
  obtain ⟨o2, e2, _⟩ := obj_there I hb pb
  by_cases z : a = b
  · subst z
    exact wpAny_isNot_ref_self (fin_bl I q (by simp))
  · exact wpAny_isNot_ref_other z e1 e2 n1 (fin_bl I q (by simp [z]))

/-- two rules for one operation: by cases -/
theorem OpR.or {f : Value → Value → Sem Value} {r r' : R2} (h : OpR X f r) (h' : OpR X f r') : OpR X f (fun x y H Q => r x y H Q ∨ r' x y H Q) := by
  intro pins s σ H x y v u Q I rx ry q
  rcases q with q | q
  · exact h pins s σ H x y v u Q I rx ry q
  · exact h' pins s σ H x y v u Q I rx ry q

theorem nomark (b : Expr) {op : CmpOp} (h : op ≠ .In := by decide) (h2 : op ≠ .NotIn := by decide) : behindInMarks op b = false := by
  have e1 : (op == CmpOp.In) = false := by cases op <;> first | rfl | exact absurd rfl h
  have e2 : (op == CmpOp.NotIn) = false := by cases op <;> first | rfl | exact absurd rfl h2
  cases b <;> simp [behindInMarks, e1, e2]
/-- a comparison as a value; hm: nomark b, or (for in, not in) by with_unfolding_all rfl -/
theorem pe_cmpR {op : CmpOp} {r : R2} (ho : OpR X (compareOp op) r) (ha : PE X a ta) (hb : PE X b tb) (hm : behindInMarks op b = false) : PE X (.Compare a [op] [b] pos) (tOp r ta tb) := by
  intro pins s σ H Q I h
  exact wpAny_Compare1 (binT ha hb I h fun v u s2 x y H2 I2 rx ry q => ho pins s2 σ H2 x y v u Q I2 rx ry q) hm
/-- a reading of a value as a test -/
def tTest (t : TE) : TT := fun σ H Q => t σ H fun x H' => ∃ k, x = .bl k ∧ Q k H'
theorem pt_cmpR {op : CmpOp} {r : R2} (ho : OpR X (compareOp op) r) (ha : PE X a ta) (hb : PE X b tb) (hm : behindInMarks op b = false) : PT X (.Compare a [op] [b] pos) (tTest (tOp r ta tb)) := by
  intro pins s σ H Q I h
  refine wpAny_isTrue_Compare1 (thn (ha pins s σ H _ I h) fun v s1 ⟨x, H1, I1, r1, q1⟩ => thn (hb pins s1 σ H1 _ I1 q1) fun u s2 ⟨y, H2, I2, r2, q2⟩ =>
    thn (ho pins s2 σ H2 x y v u _ I2 r1 r2 q2) fun c s3 ⟨z, H3, I3, r3, k, e, q3⟩ => ?_) hm
  subst e
  cases r3
  exact wpAny_truthy_bool ⟨H3, I3, q3⟩
/-- a op1 b op2 c -/
def tChain (r r' : R2) (ta tb tc : TE) : TE := fun σ H Q => ta σ H fun x H1 => tb σ H1 fun y H2 => r x y H2 fun z H3 => ∃ k, z = .bl k ∧
  (if k = true then tc σ H3 fun w' H4 => r' y w' H4 Q else Q (.bl false) H3)
theorem pe_chain {op op' : CmpOp} {r r' : R2} (ho : OpR X (compareOp op) r) (ho' : OpR X (compareOp op') r') (ha : PE X a ta) (hb : PE X b tb) (hc : PE X c tc)
    (hm : lastMarks [op, op'] [b, c] = false := by with_unfolding_all rfl) : PE X (.Compare a [op, op'] [b, c] pos) (tChain r r' ta tb tc) := by
  intro pins s σ H Q I h
  refine Compare_chain (thn (ha pins s σ H _ I h) fun v s1 ⟨x, H1, I1, r1, q1⟩ => chain_link (thn (hb pins s1 σ H1 _ I1 q1) fun u s2 ⟨y, H2, I2, r2, q2⟩ =>
    thn (ho pins s2 σ H2 x y v u _ I2 r1 r2 q2) fun d s3 ⟨z, H3, I3, r3, k, e, q3⟩ => ?_)) hm
  subst e
  cases r3
  refine wpAny_truthy_bool ?_
  cases k with
  | false => exact ite_ff ⟨.bl false, H3, I3, rfl, q3⟩
  | true => exact ite_tt (chain_last (thn (hc pins s3 σ H3 _ I3 q3) fun w' s4 ⟨z', H4, I4, r4, q4⟩ => ho' pins s4 σ H4 y z' u w' Q I4 r2 r4 q4))
theorem pt_chain {op op' : CmpOp} {r r' : R2} (ho : OpR X (compareOp op) r) (ho' : OpR X (compareOp op') r') (ha : PE X a ta) (hb : PE X b tb) (hc : PE X c tc)
    (hm : lastMarks [op, op'] [b, c] = false := by with_unfolding_all rfl) : PT X (.Compare a [op, op'] [b, c] pos) (tTest (tChain r r' ta tb tc)) := by
  intro pins s σ H Q I h
  refine isTrue_chain (thn (ha pins s σ H _ I h) fun v s1 ⟨x, H1, I1, r1, q1⟩ => test_link (thn (hb pins s1 σ H1 _ I1 q1) fun u s2 ⟨y, H2, I2, r2, q2⟩ =>
    thn (ho pins s2 σ H2 x y v u _ I2 r1 r2 q2) fun d s3 ⟨z, H3, I3, r3, k, e, q3⟩ => ?_)) hm
  subst e
  cases r3
  refine wpAny_truthy_bool ?_
  cases k with
  | false =>
    obtain ⟨k', e', q'⟩ := q3
    cases e'
    exact ite_ff ⟨H3, I3, q'⟩
  | true =>
    refine ite_tt (test_last (thn (hc pins s3 σ H3 _ I3 q3) fun w' s4 ⟨z', H4, I4, r4, q4⟩ => thn (ho' pins s4 σ H4 y z' u w' _ I4 r2 r4 q4) fun d' s5 ⟨z2, H5, I5, r5, k2, e2, q5⟩ => ?_))
    subst e2
    cases r5
    exact wpAny_truthy_bool ⟨H5, I5, q5⟩

/-! ### truth -/
/-- a value's truth by the abstract heap -/
def TruV (K : PySem.W.Frag) (x : V) (H : Hp) (k : Bool) : Prop :=
  match x with
  | .non => k = false
  | .bl b => k = b
  | .int i => k = (i != 0)
  | .str y => y.length ≤ sizeLine ∧ k = ((y.length : Int) != 0)
  | .byt y => y.size ≤ sizeLine ∧ k = ((y.size : Int) != 0)
  | .ref p => (∃ xs, SqL K H p xs ∧ k = !xs.isEmpty) ∨ (∃ xs, SqT K H p xs ∧ k = !xs.isEmpty) ∨ ∃ kvs, H p = some (.dK kvs) ∧ k = !kvs.isEmpty
  | _ => False
theorem isEmpty_kv {κ : Type} {kvs : List (κ × V)} {vs : List (κ × Value)} (r : KV kvs vs) : (!vs.isEmpty) = !kvs.isEmpty := by
  cases r <;> rfl
theorem isEmpty_of {xs : List V} {its : List Value} (r : Vals xs its) : (!its.toArray.isEmpty) = !xs.isEmpty := by
  cases r <;> simp
theorem line63 : (sizeLine : Nat) < 2 ^ 63 := by rw [sizeLine_eq]; decide
theorem tru_ok : TruR X (fun x H Q => ∃ k, TruV X.K x H k ∧ Q k H) := by
  intro pins s σ H x v Q I rx h
  obtain ⟨k, e, q⟩ := h
  have hl := line63
  have hs : sizeLine = 16777216 := sizeLine_eq
  cases x with
  | non =>
    cases rx
    have e' : k = false := e
    subst e'
    exact truthy_none ⟨H, I, q⟩
  | bl b =>
    cases rx
    have e' : k = b := e
    subst e'
    exact wpAny_truthy_bool ⟨H, I, q⟩
  | int i =>
    obtain ⟨t, rfl⟩ := rx
    have e' : k = (i != 0) := e
    subst e'
    exact PySem.P.truthy_int ⟨H, I, q⟩
  | str y =>
    obtain ⟨t, rfl⟩ := rx
    obtain ⟨hy, e'⟩ : y.length ≤ sizeLine ∧ k = ((y.length : Int) != 0) := e
    subst e'
    exact PySem.P.truthy_str (by omega) ⟨H, I.tok _, q⟩
  | byt y =>
    obtain ⟨t, rfl⟩ := rx
    obtain ⟨hy, e'⟩ : y.size ≤ sizeLine ∧ k = ((y.size : Int) != 0) := e
    subst e'
    exact PySem.W.truthy_bytes (by omega) ⟨H, I.tok _, q⟩
  | ref p =>
    cases rx
    have e' : (∃ xs, SqL X.K H p xs ∧ k = !xs.isEmpty) ∨ (∃ xs, SqT X.K H p xs ∧ k = !xs.isEmpty) ∨ ∃ kvs, H p = some (.dK kvs) ∧ k = !kvs.isEmpty := e
    rcases e' with ⟨xs, hx, e'⟩ | ⟨xs, hx, e'⟩ | ⟨kvs, hx, e'⟩
    · subst e'
      obtain ⟨its, r, pl, hz⟩ := I.list hx
      have hlen := r.length
      exact wpAny_truthy_list pl.isList (by simp only [List.size_toArray]; omega) ⟨H, I.tok _, by rw [isEmpty_of r]; exact q⟩
    · subst e'
      obtain ⟨its, r, pl, hz⟩ := I.tuple hx
      have hlen := r.length
      exact truthy_tuple pl (by simp only [List.size_toArray]; omega) ⟨H, I.tok _, by rw [isEmpty_of r]; exact q⟩
    · subst e'
      obtain ⟨hz, hS, vs, r, m⟩ : kvs.length ≤ sizeLine ∧ (p == sysModules) = false ∧ ∃ vs, KV kvs vs ∧ s.heap.DictOf (mixKind X.prog X.w) p vs := I.hok p _ hx
      have hlen : kvs.length = vs.length := Paired.length r
      exact wpAny_truthy_dict hS m (by omega) ⟨H, I.tok _, by rw [isEmpty_kv r]; exact q⟩
  | _ => exact (show False from e).elim
/-- any expression whose test is its value's truth (a name, a call, a subscript, a field ..: he by fun _ => rfl) -/
theorem pt_truth (ha : PE X a ta) (he : ∀ whole, isTrue a X.env whole = (do let v ← whole; standAt a.pos; holding [v] (truthy v))) :
    PT X a (fun σ H Q => ta σ H fun x H' => ∃ k, TruV X.K x H' k ∧ Q k H') := by
  intro pins s σ H Q I h
  exact isTrue_plain (thn (ha pins s σ H _ I h) fun v s1 ⟨x, H1, I1, r1, q1⟩ => tru_ok pins s1 σ H1 x v Q I1 r1 q1) (he _)

/-! ### strs and bytes -/
theorem pe_byt {x : List UInt8} {k : Nat} : PE X (.Constant (.bytes x) k pos) (fun _ H Q => Q (.byt x.toArray) H) := fun _ _ _ H _ I h => PySem.W.Constant_bytes ⟨.byt x.toArray, H, I.tok _, ⟨_, rfl⟩, h⟩
theorem op_add_str : OpR X (binaryOp .Add) (fun x y H Q => ∃ i j, x = .str i ∧ y = .str j ∧ i.length + j.length ≤ sizeLine ∧ Q (.str (i ++ j)) H) := by
  intro pins s σ H x y v u Q I rx ry h
  obtain ⟨i, j, rfl, rfl, hz, q⟩ := h
  obtain ⟨t, rfl⟩ := rx
  obtain ⟨t', rfl⟩ := ry
  exact add_str (fun t' tk => ⟨.str (i ++ j), H, I.tok _, ⟨_, rfl⟩, q⟩) hz
theorem iop_add_str : OpR X (inplaceOp .Add) (fun x y H Q => ∃ i j, x = .str i ∧ y = .str j ∧ i.length + j.length ≤ sizeLine ∧ Q (.str (i ++ j)) H) := by
  intro pins s σ H x y v u Q I rx ry h
  obtain ⟨i, j, rfl, rfl, hz, q⟩ := h
  obtain ⟨t, rfl⟩ := rx
  obtain ⟨t', rfl⟩ := ry
  exact iadd_str (fun t' tk => ⟨.str (i ++ j), H, I.tok _, ⟨_, rfl⟩, q⟩) hz
theorem op_add_byt : OpR X (binaryOp .Add) (fun x y H Q => ∃ i j, x = .byt i ∧ y = .byt j ∧ i.size + j.size ≤ 16777216 ∧ Q (.byt (i ++ j)) H) := by
  intro pins s σ H x y v u Q I rx ry h
  obtain ⟨i, j, rfl, rfl, hz, q⟩ := h
  obtain ⟨t, rfl⟩ := rx
  obtain ⟨t', rfl⟩ := ry
  exact PySem.W.KBy.add_bytes hz (fun t' tk => ⟨.byt (i ++ j), H, I.tok _, ⟨_, rfl⟩, q⟩)

def PlainIxT (b : Expr) : Prop := ∀ o i, subscripted b false o i = operate [o, i] (getItem o i)
/-- s[i], 0 ≤ i < len -/
theorem pe_item_str (ha : PE X a ta) (hb : PE X b tb) (hs : PlainIxT b) :
    PE X (.Subscript a b pos) (tOp (fun x y H Q => ∃ z i c, x = .str z ∧ y = .int i ∧ 0 ≤ i ∧ i < 2 ^ 63 ∧ i < z.length ∧ z.cps[i.toNat]? = some c ∧ Q (.str ⟨#[c]⟩) H) ta tb) := by
  intro pins s σ H Q I h
  refine Subscript_ (binT ha hb I h fun v u s2 x y H2 I2 rx ry q => ?_)
  obtain ⟨z, i, c, rfl, rfl, h0, h63, h1, hc, q⟩ := q
  obtain ⟨t, rfl⟩ := rx
  obtain ⟨t', rfl⟩ := ry
  have e : seqIndex? i z.length = some i.toNat := PySem.StrLaws.seqIndex_nonneg h0 h1
  exact tail_any (typeIs_str s2 z t) slot_str_getitem.lookup (getItem_str (c := c) (by
    have e1 : decide (i < -(2 ^ 63 : Int)) = false := decide_eq_false (by omega)
    have e2 : decide (i ≥ 2 ^ 63) = false := decide_eq_false (by omega)
    rw [e1, e2] <;> rfl) (by rw [e]; exact hc) ⟨.str ⟨#[c]⟩, H2, I2.tok _, ⟨_, rfl⟩, q⟩) (hs _ _)
/-- b[i], 0 ≤ i < len -/
theorem pe_item_byt (ha : PE X a ta) (hb : PE X b tb) (hs : PlainIxT b) :
    PE X (.Subscript a b pos) (tOp (fun x y H Q => ∃ (z : List UInt8) (i : Int), x = .byt z.toArray ∧ y = .int i ∧ z.length ≤ sizeLine ∧ 0 ≤ i ∧ i < z.length ∧ Q (.int ((z.getD i.toNat 0).toNat : Nat)) H) ta tb) := by
  intro pins s σ H Q I h
  refine Subscript_ (binT ha hb I h fun v u s2 x y H2 I2 rx ry q => ?_)
  obtain ⟨z, i, rfl, rfl, hz, h0, h1, q⟩ := q
  obtain ⟨t, rfl⟩ := rx
  obtain ⟨t', rfl⟩ := ry
  have hl : sizeLine = 16777216 := sizeLine_eq
  exact tail_any (PySem.W.typeIs_bytes s2 z.toArray t) PySem.W.FB.slot_bytes_getitem.lookup (PySem.W.getItem_bytes (by omega) h0 h1 ⟨.int ((z.getD i.toNat 0).toNat : Nat), H2, I2.tok _, ⟨_, rfl⟩, q⟩) (hs _ _)

/-! ### scalar builtins, by CallR -/
theorem vals1 {x : V} {us : List Value} (r : Vals [x] us) : ∃ u, us = [u] ∧ RelV x u := by
  cases r with
  | cons r1 r2 => cases r2; exact ⟨_, rfl, r1⟩
theorem vals2 {x y : V} {us : List Value} (r : Vals [x, y] us) : ∃ u w', us = [u, w'] ∧ RelV x u ∧ RelV y w' := by
  cases r with
  | cons r1 r2 =>
    cases r2 with
    | cons r3 r4 => cases r4; exact ⟨_, _, rfl, r1, r3⟩
theorem call_abs : CallR X (.builtin "abs") (fun xs H Q => ∃ i, xs = [.int i] ∧ Q (.int (if i < 0 then -i else i)) H) := by
  intro pins s σ H xs us Q I r h
  obtain ⟨i, rfl, q⟩ := h
  obtain ⟨u, rfl, t, rfl⟩ := vals1 r
  exact call_abs_int fun u tk => ⟨.int (if i < 0 then -i else i), H, I.tok _, ⟨_, rfl⟩, q⟩
theorem call_max2 (hc : X.calm = true) : CallR X (.builtin "max") (fun xs H Q => ∃ i j, xs = [.int i, .int j] ∧ Q (.int (if j > i then j else i)) H) := by
  intro pins s σ H xs us Q I r h
  obtain ⟨i, j, rfl, q⟩ := h
  obtain ⟨u, w', rfl, ⟨t, rfl⟩, ⟨t', rfl⟩⟩ := vals2 r
  refine max_two_ints (I.ok.hd hc) fun h' tk k => ⟨_, H, I.kept k, ?_, q⟩
  by_cases hj : j > i
  · rw [if_pos hj, if_pos hj]; exact ⟨_, rfl⟩
  · rw [if_neg hj, if_neg hj]; exact ⟨_, rfl⟩
theorem call_min2 (hc : X.calm = true) : CallR X (.builtin "min") (fun xs H Q => ∃ i j, xs = [.int i, .int j] ∧ Q (.int (if j < i then j else i)) H) := by
  intro pins s σ H xs us Q I r h
  obtain ⟨i, j, rfl, q⟩ := h
  obtain ⟨u, w', rfl, ⟨t, rfl⟩, ⟨t', rfl⟩⟩ := vals2 r
  refine min_two_ints (I.ok.hd hc) fun h' tk k => ⟨_, H, I.kept k, ?_, q⟩
  by_cases hj : j < i
  · rw [if_pos hj, if_pos hj]; exact ⟨_, rfl⟩
  · rw [if_neg hj, if_neg hj]; exact ⟨_, rfl⟩
theorem call_int1 : CallR X (.type "int") (fun xs H Q => (∃ i, xs = [.int i] ∧ Q (.int i) H) ∨ ∃ k, xs = [.bl k] ∧ Q (.int (if k then 1 else 0)) H) := by
  intro pins s σ H xs us Q I r h
  rcases h with ⟨i, rfl, q⟩ | ⟨k, rfl, q⟩
  · obtain ⟨u, rfl, t, rfl⟩ := vals1 r
    exact call_int_int ⟨.int i, H, I, ⟨_, rfl⟩, q⟩
  · obtain ⟨u, rfl, r1⟩ := vals1 r
    cases r1
    exact call_int_bool ⟨.int (if k then 1 else 0), H, I.tok _, ⟨_, rfl⟩, q⟩
theorem call_bool1 : CallR X (.type "bool") (fun xs H Q => (∃ i, xs = [.int i] ∧ Q (.bl (i != 0)) H) ∨ ∃ k, xs = [.bl k] ∧ Q (.bl k) H) := by
  intro pins s σ H xs us Q I r h
  rcases h with ⟨i, rfl, q⟩ | ⟨k, rfl, q⟩
  · obtain ⟨u, rfl, t, rfl⟩ := vals1 r
    exact call_bool_int ⟨.bl (i != 0), H, I, rfl, q⟩
  · obtain ⟨u, rfl, r1⟩ := vals1 r
    cases r1
    exact call_bool_bool ⟨.bl k, H, I, rfl, q⟩
theorem call_str_int : CallR X (.type "str") (fun xs H Q => ∃ i, xs = [.int i] ∧ i.natAbs.log2 < 1920 ∧ Q (.str (toString i)) H) := by
  intro pins s σ H xs us Q I r h
  obtain ⟨i, rfl, hz, q⟩ := h
  obtain ⟨u, rfl, t, rfl⟩ := vals1 r
  exact PySem.P.str_of_int hz ⟨.str _, H, I.tok _, ⟨_, rfl⟩, q⟩
theorem call_ord : CallR X (.builtin "ord") (fun xs H Q => ∃ x, xs = [.str x] ∧ x.length = 1 ∧ Q (.int (x.cps.getD 0 0 : Nat)) H) := by
  intro pins s σ H xs us Q I r h
  obtain ⟨x, rfl, hz, q⟩ := h
  obtain ⟨u, rfl, t, rfl⟩ := vals1 r
  exact ord_of_one hz ⟨.int _, H, I.tok _, ⟨_, rfl⟩, q⟩
theorem call_chr : CallR X (.builtin "chr") (fun xs H Q => ∃ i, xs = [.int i] ∧ 0 ≤ i ∧ i ≤ 1114111 ∧ Q (.str ⟨#[i.toNat]⟩) H) := by
  intro pins s σ H xs us Q I r h
  obtain ⟨i, rfl, h0, h1, q⟩ := h
  obtain ⟨u, rfl, t, rfl⟩ := vals1 r
  exact chr_of_range h0 h1 ⟨.str _, H, I.tok _, ⟨_, rfl⟩, q⟩
/-- len of a str, a bytes, a list, a tuple -/
def LenV (K : PySem.W.Frag) (x : V) (H : Hp) (n : Nat) : Prop :=
  match x with
  | .str y => y.length ≤ sizeLine ∧ n = y.length
  | .byt y => y.size ≤ sizeLine ∧ n = y.size
  | .ref p => (∃ xs, SqL K H p xs ∧ n = xs.length) ∨ ∃ xs, SqT K H p xs ∧ n = xs.length
  | _ => False
theorem call_len : CallR X (.builtin "len") (fun xs H Q => ∃ x n, xs = [x] ∧ LenV X.K x H n ∧ Q (.int n) H) := by
  intro pins s σ H xs us Q I r h
  obtain ⟨x, n, rfl, e, q⟩ := h
  obtain ⟨u, rfl, rx⟩ := vals1 r
  have hl := line63
  have hs : sizeLine = 16777216 := sizeLine_eq
  cases x with
  | str y =>
    obtain ⟨t, rfl⟩ := rx
    obtain ⟨hy, e'⟩ : y.length ≤ sizeLine ∧ n = y.length := e
    subst e'
    exact len_str (by omega) ⟨.int _, H, I.tok _, ⟨_, rfl⟩, q⟩
  | byt y =>
    obtain ⟨t, rfl⟩ := rx
    obtain ⟨hy, e'⟩ : y.size ≤ sizeLine ∧ n = y.size := e
    subst e'
    exact PySem.W.len_bytes (by omega) ⟨.int _, H, I.tok _, ⟨_, rfl⟩, q⟩
  | ref p =>
    cases rx
    have e' : (∃ xs, SqL X.K H p xs ∧ n = xs.length) ∨ ∃ xs, SqT X.K H p xs ∧ n = xs.length := e
    rcases e' with ⟨xs, hx, e'⟩ | ⟨xs, hx, e'⟩
    · subst e'
      obtain ⟨its, r', pl, hz⟩ := I.list hx
      have hlen := r'.length
      exact Calls.call_len_list pl.isList (by simp only [List.size_toArray]; omega) ⟨.int xs.length, H, I.tok _, ⟨_, by simp only [List.size_toArray]; rw [hlen]⟩, q⟩
    · subst e'
      obtain ⟨its, r', pl, hz⟩ := I.tuple hx
      have hlen := r'.length
      exact len_tuple pl (by simp only [List.size_toArray]; omega) ⟨.int xs.length, H, I.tok _, ⟨_, by simp only [List.size_toArray]; rw [hlen]⟩, q⟩
  | _ => exact (show False from e).elim
/-- divmod: a new tuple -/
theorem call_divmod : CallR X (.builtin "divmod") (fun xs H Q => ∃ i j, xs = [.int i, .int j] ∧ CDiv i j ∧ ∀ p, H p = none → Q (.ref p) (upd H p (.tup [.int (i / j), .int (i % j)]))) := by
  intro pins s σ H xs us Q I r h
  obtain ⟨i, j, rfl, ⟨h1, h2⟩, q⟩ := h
  obtain ⟨u, w', rfl, ⟨t, rfl⟩, ⟨t', rfl⟩⟩ := vals2 r
  refine divmod_int (by omega) ?_ (.inl (PyProof.noPylong_small (by omega)))
  rw [Int.fdiv_eq_ediv_of_nonneg i (by omega), Int.fmod_eq_emod_of_nonneg i (by omega)]
  have hn : H s.heap.objs.size = none := I.hok.fresh (Nat.le_refl _)
  refine ⟨.ref s.heap.objs.size, _, ?_, rfl, q _ hn⟩
  refine I.laid (fun b o e => Heap.get?_push_of_some _ e) (Nat.le_refl _) ⟨by simp only [List.length_cons, List.length_nil]; rw [sizeLine_eq]; decide, [.int (i / j) s.toks, .int (i % j) (s.toks + 1)], .cons ⟨_, rfl⟩ (.cons ⟨_, rfl⟩ .nil), ?_⟩
  exact ⟨_, Heap.get?_push_size s.heap rfl, rfl, 0, rfl⟩
end
end L2

namespace L2
open PySem PySem.Spec PyProof.Rows

/-! ### an instance, its attributes a map -/
structure ObjM (h : Heap) (x dx C : Addr) (mA : Str → Option Value) : Prop where
  obj : h.get? x = some (PySem.W.instObj C dx)
  ns : h.Ns1 dx mA
  ne : dx ≠ x

theorem lookIn_ns {h : Heap} {dx : Addr} {mA : Str → Option Value} (n : h.Ns1 dx mA) : ∃ od, h.get? dx = some od ∧ ∀ name, PySem.W.lookIn name od = some (mA name) := by
  obtain ⟨o, es, ep, ho, hd, hk, _, hm⟩ := n
  refine ⟨o, ho, fun name => ?_⟩
  have e := hm name
  unfold nsFind findBy at e
  rw [← Array.find?_toList] at e
  unfold PySem.W.lookIn
  rw [hd]
  dsimp only
  split
  · rename_i y q
    rw [q] at e
    exact congrArg some e
  · rename_i q
    rw [q] at e
    have a : es.toList.any (·.refKey) = false := by
      rw [List.any_eq_false]
      intro y hy
      obtain ⟨z, t, hkey⟩ := hk y (Array.mem_toList_iff.mp hy)
      simp [DictEntry.refKey, hkey]
    have a' : ¬ es.toList.any (·.refKey) = true := by rw [a]; exact Bool.false_ne_true
    rw [if_neg a']
    exact congrArg some e

theorem ObjM.look {h : Heap} {x dx C : Addr} {mA : Str → Option Value} (I : ObjM h x dx C mA) : ∃ od, PySem.W.InstAt h x (PySem.W.instObj C dx) C (some od) ∧ ∀ name, PySem.W.lookIn name od = some (mA name) :=
  let ⟨od, ho, hl⟩ := lookIn_ns I.ns
  ⟨od, ⟨I.obj, rfl, rfl, ho⟩, hl⟩

section
variable {prog : Program} {w : World} {A : Around} {E : Value → Shared → Prop} {s : Shared} {K : PySem.W.Frag} {x dx C f : Addr} {mA : Str → Option Value} {name : Str} {v : Value}

theorem get_map {expr : Bool} {Q : Value → Shared → Prop} (X : K.In s.heap) (I : ObjM s.heap x dx C mA) (hg : PySem.W.plainGet K C name = true) (hh : PySem.W.hasDictIn K C = true)
    (ha : PySem.W.findIn K (.ref C) name = some none) (hv : mA name = some v) (hv' : PySem.W.handedIn v = true) (h : Q v { s with toks := s.toks + 1 }) :
    wpAny (model prog w) A (getAttr (.ref x) name expr) Q E s := by
  obtain ⟨od, J, hl⟩ := I.look
  exact PySem.W.get_value X J (PySem.W.plainGet_of hg).1 (PySem.W.findObj_own hh ha rfl (by rw [hl, hv])) hv' h

theorem get_const {expr : Bool} {a : Value} {Q : Value → Shared → Prop} (X : K.In s.heap) (I : ObjM s.heap x dx C mA) (hg : PySem.W.plainGet K C name = true) (hh : PySem.W.hasDictIn K C = true)
    (ha : PySem.W.findIn K (.ref C) name = some (some a)) (hn : PySem.W.specialIn K a "__get__" = some none) (hc : PySem.W.copiedNames.contains name = false) (hv : mA name = none) (hv' : PySem.W.handedIn a = true)
    (h : Q a { s with toks := s.toks + 1 }) : wpAny (model prog w) A (getAttr (.ref x) name expr) Q E s := by
  obtain ⟨od, J, hl⟩ := I.look
  exact PySem.W.get_value X J (PySem.W.plainGet_of hg).1 (PySem.W.findObj_cls hh ha hn hv' hc (by rw [hl, hv])) hv' h

theorem get_meth {pl : Sem Bool} {Q : Value × List Value → Shared → Prop} (X : K.In s.heap) (I : ObjM s.heap x dx C mA) (hg : PySem.W.plainGet K C name = true)
    (hf : PySem.W.findIn K (.ref C) name = some (some (.ref f))) (ht : PySem.W.isFn K (.ref f) = true) (hv : mA name = none) (h : Q (.ref f, [.ref x]) s) :
    wpAny (model prog w) A (getMethod (.ref x) name pl) Q E s := by
  obtain ⟨od, J, hl⟩ := I.look
  exact PySem.W.method_fn X J (PySem.W.plainGet_of hg).1 (PySem.W.plainGet_of hg).2 hf (beq_iff_eq.mp ht) (by show (PySem.W.lookIn name od).map (·.isSome) = some false; rw [hl, hv]; rfl) h

theorem set_map {ns : List Str} {Q : Unit → Shared → Prop} (X : K.In s.heap) (I : ObjM s.heap x dx C mA)
    (hs : PySem.W.findIn K (.ref C) "__setattr__" = some (some (.builtin "object.__setattr__"))) (hp : PySem.W.plainOver K C = true) (ht : PySem.W.takerIn K C name = some none) (hh : PySem.W.hasDictIn K C = true)
    (hw : PySem.Within mA ns) (hsz : ns.length ≤ sizeLine)
    (h : ∀ h', ObjM h' x dx C (fun y => if y = name then some v else mA y) → Heap.SameBut dx s.heap h' → Q () { s with heap := h', toks := s.toks + 2 }) :
    wpAny (model prog w) A (setAttr (.ref x) name v) Q E s := by
  obtain ⟨od, J, hl⟩ := I.look
  refine PySem.W.set_plain X J hs (PySem.W.osa_open (s := { s with toks := s.toks + 1 }) (r := none) X J hp ht fun b => ?_)
  obtain ⟨cd, hc, hd'⟩ := PySem.W.any_some hh
  have hx : s.heap.get? x = some ⟨.ref C, some dx, .plain, #[]⟩ := I.obj
  refine wpAny_bind (wpAny_pure (wpAny_bind (wpAny_bind (wpAny_loadPart hx (wpAny_bind (PySem.W.Looks.here (s := { s with toks := s.toks + 1 }) (PySem.W.looks_clsIn X hc) ?_))))))
  rw [hd']
  refine wpAny_pure (a := some dx) (wpAny_bind (wpAny_pure (wpAny_bind ?_)))
  refine wpAny_nsSet1 (s := { s with toks := s.toks + 1 }) I.ns fun h' hn2 hs2 => ?_
  obtain ⟨oD, esD, epD, hoD, hdD, hcD⟩ := hn2.count (PySem.Within.cons name v hw)
  refine wpAny_bind (wpAny_lookBehind hoD (by rw [hdD]; exact pastItsLine_dict (Nat.le_trans hcD (by rw [List.length_cons]; omega))) ?_)
  exact wpAny_pure (h _ ⟨(hs2.2 _ (Ne.symm I.ne)).trans I.obj, hn2, I.ne⟩ hs2)

/-- C(..): the dict at the heap's end, the instance behind it; then its __init__ -/
theorem make_map {R : Result → Shared → Prop} {vs : List Value} {kw : List (Str × Value)} (X : K.In s.heap) (hm : PySem.W.makesIn K C = true)
    (hi : PySem.W.findIn K (.ref C) "__init__" = some (some (.ref f))) (hf : PySem.W.typeIn K (.ref f) = some (.type "function"))
    (h : codeAny (model prog w) (A.under (.builtin "type.__call__" ⟨.ref C :: vs, kw⟩)) (.call (.ref f) ⟨.ref (s.heap.objs.size + 1) :: vs, kw⟩) (PySem.W.InitBack (s.heap.objs.size + 1) R)
      { s with heap := (s.heap.push PySem.W.emptyDict).push (PySem.W.instObj C s.heap.objs.size) }) :
    codeAny (model prog w) A (.call (.ref C) ⟨vs, kw⟩) R s := by
  obtain ⟨hh, g, d, t, os⟩ := s
  exact PySem.W.make_core (PySem.W.makes_of X hm) (PySem.W.looks_findIn X hi) (fun self => PySem.W.bind_fn X self hf) (.inl rfl) h
/-- C() where there is no __init__ but object's -/
theorem make_map0 {R : Result → Shared → Prop} (X : K.In s.heap) (hm : PySem.W.makesIn K C = true)
    (hi : PySem.W.findIn K (.ref C) "__init__" = some (some (.builtin "object.__init__")))
    (hb : ∀ self, PySem.W.Looks (model prog w) s.heap (bindSpecial (.builtin "object.__init__") self) (.builtin "object.__init__", [self]))
    (h : codeAny (model prog w) (A.under (.builtin "type.__call__" ⟨[.ref C], []⟩)) (.call (.builtin "object.__init__") ⟨[.ref (s.heap.objs.size + 1)], []⟩) (PySem.W.InitBack (s.heap.objs.size + 1) R)
      { s with heap := (s.heap.push PySem.W.emptyDict).push (PySem.W.instObj C s.heap.objs.size) }) :
    codeAny (model prog w) A (.call (.ref C) ⟨[], []⟩) R s := by
  obtain ⟨hh, g, d, t, os⟩ := s
  exact PySem.W.make_core (PySem.W.makes_of X hm) (PySem.W.looks_findIn X hi) hb (.inr ⟨rfl, rfl⟩) h
end

/-! ### the attributes as a list of pairs -/
def putF (f : Str) (v : V) : List (Str × V) → List (Str × V)
  | [] => [(f, v)]
  | (g, x) :: r => if g = f then (g, v) :: r else (g, x) :: putF f v r
theorem lookup_putF (f g : Str) (v : V) : ∀ fs : List (Str × V), (putF f v fs).lookup g = if g = f then some v else fs.lookup g
  | [] => by
    show List.lookup g [(f, v)] = _
    by_cases h : g = f
    · have hb : (g == f) = true := beq_iff_eq.mpr h
      simp only [List.lookup, hb, if_pos h]
    · have hb : (g == f) = false := beq_eq_false_iff_ne.mpr h
      simp only [List.lookup, hb, if_neg h]
  | (k, x) :: r => by
    have ih := lookup_putF f g v r
    rw [show putF f v ((k, x) :: r) = (if k = f then (k, v) :: r else (k, x) :: putF f v r) from rfl]
    by_cases hk : k = f
    · rw [if_pos hk]
      by_cases h : g = k
      · have hb : (g == k) = true := beq_iff_eq.mpr h
        simp only [List.lookup, hb, if_pos (h.trans hk)]
      · have hb : (g == k) = false := beq_eq_false_iff_ne.mpr h
        simp only [List.lookup, hb, if_neg (fun e : g = f => h (e.trans hk.symm))]
    · rw [if_neg hk]
      by_cases h : g = k
      · have hb : (g == k) = true := beq_iff_eq.mpr h
        simp only [List.lookup, hb, if_neg (fun e : g = f => hk (h.symm.trans e))]
      · have hb : (g == k) = false := beq_eq_false_iff_ne.mpr h
        simp only [List.lookup, hb]
        exact ih
theorem keys_putF (f : Str) (v : V) : ∀ fs : List (Str × V), f ∈ (putF f v fs).map (·.1) ∧ ∀ g, g ∈ fs.map (·.1) → g ∈ (putF f v fs).map (·.1)
  | [] => ⟨by simp [putF], fun g h => by simp at h⟩
  | (k, x) :: r => by
    obtain ⟨i1, i2⟩ := keys_putF f v r
    rw [show putF f v ((k, x) :: r) = (if k = f then (k, v) :: r else (k, x) :: putF f v r) from rfl]
    by_cases hk : k = f
    · rw [if_pos hk]
      subst hk
      exact ⟨by simp, fun g h => by simpa using h⟩
    · rw [if_neg hk]
      refine ⟨?_, fun g h => ?_⟩
      · rw [List.map_cons]
        exact List.mem_cons_of_mem _ i1
      · rw [List.map_cons] at h ⊢
        rcases List.mem_cons.mp h with e | e
        · exact List.mem_cons.mpr (.inl e)
        · exact List.mem_cons_of_mem _ (i2 g e)
theorem length_putF (f : Str) (v : V) : ∀ fs : List (Str × V), (putF f v fs).length ≤ fs.length + 1
  | [] => by simp [putF]
  | (k, x) :: r => by
    have ih := length_putF f v r
    rw [show putF f v ((k, x) :: r) = (if k = f then (k, v) :: r else (k, x) :: putF f v r) from rfl]
    by_cases hk : k = f
    · rw [if_pos hk, List.length_cons, List.length_cons]; omega
    · rw [if_neg hk, List.length_cons, List.length_cons]; omega

theorem RelO.some_of {v : V} {o : Option Value} (r : RelO (some v) o) : ∃ u, o = some u ∧ RelV v u := by
  cases o with
  | none => exact (show False from r).elim
  | some u => exact ⟨u, rfl, r⟩
theorem RelO.none_of {o : Option Value} (r : RelO none o) : o = none := by
  cases o with
  | none => rfl
  | some u => exact (show False from r).elim
theorem handed_of {v : V} {u : Value} (r : RelV v u) : PySem.W.handedIn u = true := by
  cases v with
  | non => cases (show u = Value.none from r); rfl
  | bl b => cases (show u = Value.bool b from r); rfl
  | int i => obtain ⟨t, e⟩ := (show ∃ t, u = Value.int i t from r); cases e; rfl
  | str x => obtain ⟨t, e⟩ := (show ∃ t, u = Value.str x t from r); cases e; rfl
  | byt b => obtain ⟨t, e⟩ := (show ∃ t, u = Value.bytes b t from r); cases e; rfl
  | flt b => obtain ⟨t, e⟩ := (show ∃ t, u = Value.float b t from r); cases e; rfl
  | ref a => cases (show u = Value.ref a from r); rfl
  | ty n => cases (show u = Value.type n from r); rfl

section
variable {P : Program} {w : World} {H H' : Hp} {h h' : Heap} {a C dx : Addr} {fs fs' : List (Str × V)}
theorem ins_get (hok : HOk P w H h) (e : H a = some (.ins C dx fs)) : ∃ mA, ObjM h a dx C mA ∧ (∀ f, RelO (fs.lookup f) (mA f)) ∧ PySem.Within mA (fs.map (·.1)) ∧ fs.length ≤ 1000 ∧ H dx = some (.own a) := by
  obtain ⟨d, z, ne, ob, mA, n, r, q⟩ := (show ObjOk P w H h a (.ins C dx fs) from hok a _ e)
  exact ⟨mA, ⟨ob, n, ne⟩, r, q, z, d⟩
end

/-! ### what of the text a class must have -/
structure Cls (K : PySem.W.Frag) (C : Addr) : Prop where
  pg : PySem.W.plainGet K C Str.empty = true
  hd : PySem.W.hasDictIn K C = true
  po : PySem.W.plainOver K C = true
  sa : PySem.W.findIn K (.ref C) "__setattr__" = some (some (.builtin "object.__setattr__"))
theorem Cls.get {K : PySem.W.Frag} {C : Addr} (c : Cls K C) (f : Str) : PySem.W.plainGet K C f = true := c.pg
/-- no class of it has the name -/
def NoAttr (K : PySem.W.Frag) (C : Addr) (f : Str) : Prop := PySem.W.findIn K (.ref C) f = some none
theorem NoAttr.taker {K : PySem.W.Frag} {C : Addr} {f : Str} (n : NoAttr K C f) : PySem.W.takerIn K C f = some none := by
  unfold PySem.W.takerIn
  rw [show PySem.W.findIn K (.ref C) f = some none from n]
  rfl
/-- a constant of the class -/
structure Con (K : PySem.W.Frag) (C : Addr) (f : Str) (v : V) (u : Value) : Prop where
  at_ : PySem.W.findIn K (.ref C) f = some (some u)
  rel : RelV v u
  get : PySem.W.specialIn K u "__get__" = some none
  cp : PySem.W.copiedNames.contains f = false
/-- a method: a plain def of the class or of one above it -/
structure Meth (K : PySem.W.Frag) (C : Addr) (m : Str) (f : Addr) : Prop where
  at_ : PySem.W.findIn K (.ref C) m = some (some (.ref f))
  fn : PySem.W.isFn K (.ref f) = true
  kp : PySem.W.keepIn K (.ref f) = true

section
variable {X : Cx} {pins : List (Addr × Obj)} {σ : St} {H : Hp} {s : Shared} {a C dx : Addr} {fs : List (Str × V)} {f : Str} {v : V} {A : Around} {E : Value → Shared → Prop}

theorem getattr_ok {b : Bool} {Q : Value → Shared → Prop} (I : Inv X pins σ H s) (e : H a = some (.ins C dx fs)) (c : Cls X.K C) (n : NoAttr X.K C f) (l : fs.lookup f = some v)
    (h : ∀ u s', Inv X pins σ H s' → RelV v u → Q u s') : wpAny (model X.prog X.w) A (getAttr (.ref a) f b) Q E s := by
  obtain ⟨mA, O, r, _, _, _⟩ := ins_get I.hok e
  obtain ⟨u, hu, ru⟩ := RelO.some_of (v := v) (o := mA f) (by rw [← l]; exact r f)
  exact get_map I.kIn O (c.get f) c.hd n hu (handed_of ru) (h u _ (I.tok _) ru)

theorem getcon_ok {b : Bool} {u : Value} {Q : Value → Shared → Prop} (I : Inv X pins σ H s) (e : H a = some (.ins C dx fs)) (c : Cls X.K C) (k : Con X.K C f v u) (l : fs.lookup f = none)
    (h : ∀ s', Inv X pins σ H s' → Q u s') : wpAny (model X.prog X.w) A (getAttr (.ref a) f b) Q E s := by
  obtain ⟨mA, O, r, _, _, _⟩ := ins_get I.hok e
  have hn : mA f = none := RelO.none_of (by rw [← l]; exact r f)
  exact get_const I.kIn O (c.get f) c.hd k.at_ k.get k.cp hn (handed_of k.rel) (h _ (I.tok _))

theorem getmeth_ok {m : Str} {g : Addr} {pl : Sem Bool} {Q : Value × List Value → Shared → Prop} (I : Inv X pins σ H s) (e : H a = some (.ins C dx fs)) (c : Cls X.K C) (k : Meth X.K C m g) (l : fs.lookup m = none)
    (h : Q (.ref g, [.ref a]) s) : wpAny (model X.prog X.w) A (getMethod (.ref a) m pl) Q E s := by
  obtain ⟨mA, O, r, _, _, _⟩ := ins_get I.hok e
  have hn : mA m = none := RelO.none_of (by rw [← l]; exact r m)
  exact get_meth I.kIn O (c.get m) k.at_ k.fn hn h

theorem setattr_ok {y : V} {u : Value} {Q : Unit → Shared → Prop} (I : Inv X pins σ H s) (e : H a = some (.ins C dx fs)) (c : Cls X.K C) (n : NoAttr X.K C f) (hl : fs.length < 1000) (ry : RelV y u)
    (h : ∀ s', Inv X pins σ (upd H a (.ins C dx (putF f y fs))) s' → Q () s') : wpAny (model X.prog X.w) A (setAttr (.ref a) f u) Q E s := by
  obtain ⟨mA, O, r, wi, _, ho⟩ := ins_get I.hok e
  have hz : (fs.map (·.1)).length ≤ sizeLine := by rw [List.length_map, sizeLine_eq]; omega
  refine set_map I.kIn O c.sa c.po n.taker c.hd wi hz fun h' O' sb => h _ ?_
  have hd : ∃ o, h'.get? dx = some o := let ⟨o, _, _, e', _⟩ := O'.ns; ⟨o, e'⟩
  refine I.write (x := a) (e := dx) (by rw [e]; exact True.intro) (.inr ho) (fun b q hb z => (sb.2 b hb).trans z) hd ?_
  refine ⟨by rw [upd_ne O.ne]; exact ho, ?_, O.ne, O'.obj, _, O'.ns, fun g => ?_, fun g hg => ?_⟩
  · have := length_putF f y fs; omega
  · show RelO ((putF f y fs).lookup g) (if g = f then some u else mA g)
    rw [lookup_putF]
    by_cases q : g = f
    · rw [if_pos q, if_pos q]; exact ry
    · rw [if_neg q, if_neg q]; exact r g
  · by_cases q : g = f
    · rw [q]; exact (keys_putF f y fs).1
    · refine (keys_putF f y fs).2 g (wi g fun z => hg ?_)
      show (if g = f then some u else mA g) = none
      rw [if_neg q]; exact z

/-- a new instance, tracked, without attributes -/
theorem Inv.made (I : Inv X pins σ H s) : Inv X pins σ (upd (upd H s.heap.objs.size (.own (s.heap.objs.size + 1))) (s.heap.objs.size + 1) (.ins C s.heap.objs.size []))
    { s with heap := (s.heap.push PySem.W.emptyDict).push (PySem.W.instObj C s.heap.objs.size) } := by
  have e1 : (s.heap.push PySem.W.emptyDict).get? s.heap.objs.size = some PySem.W.emptyDict := Heap.get?_push_size s.heap rfl
  have e2 : ((s.heap.push PySem.W.emptyDict).push (PySem.W.instObj C s.heap.objs.size)).get? (s.heap.objs.size + 1) = some (PySem.W.instObj C s.heap.objs.size) := by
    have := Heap.get?_push_size (s.heap.push PySem.W.emptyDict) (o := PySem.W.instObj C s.heap.objs.size) rfl
    rwa [Heap.size_push] at this
  have e3 : (s.heap.push PySem.W.emptyDict).Ns s.heap.objs.size (fun _ => none) := ⟨PySem.W.emptyDict, #[], _, e1, rfl, (fun e he => absurd he (by simp)), fun _ => rfl⟩
  have I1 := I.laid (a := s.heap.objs.size) (o := .own (s.heap.objs.size + 1)) (h' := s.heap.push PySem.W.emptyDict) (t' := s.toks) (fun b u q => Heap.get?_push_of_some _ q) (Nat.le_refl _) ⟨_, e1⟩
  refine I1.laid (a := s.heap.objs.size + 1) (o := .ins C s.heap.objs.size []) (t' := s.toks) (fun b u q => Heap.get?_push_of_some _ q) (Nat.le_of_eq (Heap.size_push _ _)) ?_
  have ne : s.heap.objs.size ≠ s.heap.objs.size + 1 := Nat.ne_of_lt (Nat.lt_succ_self _)
  refine ⟨by rw [upd_ne ne, upd_same], Nat.zero_le _, ne, e2, fun _ => none, (Heap.Ns1.of_empty e3).at fun o q => Heap.get?_push_of_some _ q, fun _ => True.intro, fun y hy => absurd rfl hy⟩

/-- e.f where nothing but the object is asked: through attributeBase (super) and the last hold -/
theorem attr_of {prog : Program} {w : World} {env : Env} {e : Expr} {f : Str} {pos : Pos} {s : Shared} {Q : Value → Shared → Prop} (hb : attributeBase e f env (eval e env) = eval e env)
    (h : wpAny (model prog w) A (eval e env) (fun o s₁ => wpAny (model prog w) A (getAttr o f true) Q E s₁) E s) : wpAny (model prog w) A (eval (.Attribute e f pos) env) Q E s :=
  Attribute_any_ h (by rw [arm_eval_Attribute, hb])
end

/-! ### readings and rules -/
/-- e.f, an attribute of the instance -/
def tFld (K : PySem.W.Frag) (ta : TE) (f : Str) : TE := fun σ H Q => ta σ H fun x H1 => ∃ a C dx fs v, x = .ref a ∧ H1 a = some (.ins C dx fs) ∧ Cls K C ∧ NoAttr K C f ∧ fs.lookup f = some v ∧ Q v H1
/-- e.f, a constant of the class -/
def tCon (K : PySem.W.Frag) (ta : TE) (f : Str) : TE := fun σ H Q => ta σ H fun x H1 => ∃ a C dx fs v u, x = .ref a ∧ H1 a = some (.ins C dx fs) ∧ Cls K C ∧ Con K C f v u ∧ fs.lookup f = none ∧ Q v H1
/-- e.f = value -/
def sFld (K : PySem.W.Frag) (ta tv : TE) (f : Str) : TS := fun D σ H => tv σ H fun y H1 => ta σ H1 fun x H2 => ∃ a C dx fs, x = .ref a ∧ H2 a = some (.ins C dx fs) ∧ Cls K C ∧ NoAttr K C f ∧ fs.length < 1000 ∧
  D.nx σ (upd H2 a (.ins C dx (putF f y fs)))
/-- an augmented operator on two values -/
def InOp (X : Cx) (op : Operator) (rd : V → V → Hp → VK → Prop) : Prop :=
  ∀ (pins : List (Addr × Obj)) (s : Shared) (σ : St) (H : Hp) (x y : V) (u v : Value) (Q : VK), Inv X pins σ H s → RelV x u → RelV y v → rd x y H Q → wpAny (model X.prog X.w) X.A (inplaceOp op u v) (EP X pins σ Q) X.xe s
/-- e.f op= value -/
def sFldAug (K : PySem.W.Frag) (ta tv : TE) (rd : V → V → Hp → VK → Prop) (f : Str) : TS := fun D σ H => ta σ H fun x H1 => ∃ a C dx fs v, x = .ref a ∧ H1 a = some (.ins C dx fs) ∧ Cls K C ∧ NoAttr K C f ∧ fs.lookup f = some v ∧
  tv σ H1 fun y H2 => rd v y H2 fun z H3 => ∃ dx' fs', H3 a = some (.ins C dx' fs') ∧ fs'.length < 1000 ∧ D.nx σ (upd H3 a (.ins C dx' (putF f z fs')))

section
variable {X : Cx} {o e value : Expr} {f : Str} {pos pos' tpos : Pos} {ta tv : TE}
theorem pe_fld (he : PE X e ta) (hb : attributeBase e f X.env (eval e X.env) = eval e X.env) : PE X (.Attribute e f pos) (tFld X.K ta f) := by
  intro pins s σ H Q I h
  refine attr_of hb (thn (he pins s σ H _ I h) fun u s1 ⟨x, H1, I1, rx, a, C, dx, fs, v, ex, ea, c, n, l, q⟩ => ?_)
  subst ex
  obtain rfl : u = Value.ref a := rx
  exact getattr_ok I1 ea c n l fun u' s2 I2 ru => ⟨v, H1, I2, ru, q⟩
theorem pe_con (he : PE X e ta) (hb : attributeBase e f X.env (eval e X.env) = eval e X.env) : PE X (.Attribute e f pos) (tCon X.K ta f) := by
  intro pins s σ H Q I h
  refine attr_of hb (thn (he pins s σ H _ I h) fun u s1 ⟨x, H1, I1, rx, a, C, dx, fs, v, u0, ex, ea, c, k, l, q⟩ => ?_)
  subst ex
  obtain rfl : u = Value.ref a := rx
  exact getcon_ok I1 ea c k l fun s2 I2 => ⟨v, H1, I2, k.rel, q⟩
theorem ps_fld (ha : PE X o ta) (hv : PE X value tv) (hs : swapsWith value (some (.Attribute o f pos')) pos.line X.env = pure false) : PS X (.Assign [.Attribute o f pos'] value pos) (sFld X.K ta tv f) := by
  intro pins s σ H D I h
  refine plainObj_wpAny_Assign_Attribute (thn (hv pins s σ H _ I h) fun u s1 ⟨y, H1, I1, ry, q⟩ => thn (ha pins s1 σ H1 _ I1 q) fun ov s2 ⟨x, H2, I2, rx, a, C, dx, fs, ex, ea, c, n, l, q2⟩ => ?_) hs
  subst ex
  obtain rfl : ov = Value.ref a := rx
  exact setattr_ok I2 ea c n l ry fun s3 I3 => ⟨σ, _, I3, q2⟩
theorem ps_fldaug {op : Operator} {rd : V → V → Hp → VK → Prop} (ha : PE X o ta) (hv : PE X value tv) (hop : InOp X op rd) : PS X (.AugAssign (.Attribute o f tpos) op value pos) (sFldAug X.K ta tv rd f) := by
  intro pins s σ H D I h
  refine wpAny_AugAssign_AttributeAny (thn (ha pins s σ H _ I h) fun ov s1 ⟨x, H1, I1, rx, a, C, dx, fs, v, ex, ea, c, n, l, q⟩ => ?_)
  subst ex
  obtain rfl : ov = Value.ref a := rx
  refine getattr_ok I1 ea c n l fun u s2 I2 ru => thn (hv pins s2 σ H1 _ I2 q) fun w3 s3 ⟨y, H2, I3, ry, q3⟩ => thn (hop pins s3 σ H2 v y u w3 _ I3 ru ry q3) fun w4 s4 ⟨z, H3, I4, rz, dx', fs', ea', l', q4⟩ => ?_
  exact setattr_ok I4 ea' c n l' rz fun s5 I5 => ⟨σ, _, I5, q4⟩
def rAdd : V → V → Hp → VK → Prop := fun x y H Q => ∃ i j, x = .int i ∧ y = .int j ∧ Q (.int (i + j)) H
def rSub : V → V → Hp → VK → Prop := fun x y H Q => ∃ i j, x = .int i ∧ y = .int j ∧ Q (.int (i - j)) H
theorem in_add : InOp X .Add rAdd := by
  rintro pins s σ H x y u v Q I rx ry ⟨i, j, rfl, rfl, q⟩
  obtain ⟨t, rfl⟩ := (show ∃ t, u = Value.int i t from rx)
  obtain ⟨t', rfl⟩ := (show ∃ t', v = Value.int j t' from ry)
  exact PyProof.Rows.iadd_int ⟨.int (i + j), H, I.tok _, ⟨_, rfl⟩, q⟩
theorem in_sub : InOp X .Sub rSub := by
  rintro pins s σ H x y u v Q I rx ry ⟨i, j, rfl, rfl, q⟩
  obtain ⟨t, rfl⟩ := (show ∃ t, u = Value.int i t from rx)
  obtain ⟨t', rfl⟩ := (show ∃ t', v = Value.int j t' from ry)
  exact PyProof.Rows.isub_int ⟨.int (i - j), H, I.tok _, ⟨_, rfl⟩, q⟩

/-- what is between an instance and its method: the tree of a method call -/
theorem methcall_of {pl : Sem Bool} {m : Str} {apos : Pos} {args : List Expr} {pins : List (Addr × Obj)} {s : Shared} {σ : St} {H : Hp} {Q : Value → Shared → Prop} {te : TE} (he : PE X e te) (I : Inv X pins σ H s)
    (h : te σ H fun x H1 => ∃ a C dx fs g, x = .ref a ∧ H1 a = some (.ins C dx fs) ∧ Cls X.K C ∧ Meth X.K C m g ∧ fs.lookup m = none ∧
      ∀ s1, Inv X pins σ H1 s1 → wpAny (model X.prog X.w) X.A (callWith pos (.ref g) [.ref a] (backTo pos (starEach args X.env)) (backToKw pos (keywordEach [] X.env))) Q X.xe s1)
    (ht : eval (.Call (.Attribute e m apos) args [] pos) X.env = (do
      let ov ← eval e X.env
      standAt apos.atName
      let (f, first) ← holding [ov] (getMethod ov m pl)
      callWith pos f first (backTo pos (starEach args X.env)) (backToKw pos (keywordEach [] X.env)))) :
    wpAny (model X.prog X.w) X.A (eval (.Call (.Attribute e m apos) args [] pos) X.env) Q X.xe s := by
  refine PySem.W.methodCall_KW (pl := pl) (thn (he pins s σ H _ I h) fun u s1 ⟨x, H1, I1, rx, a, C, dx, fs, g, ex, ea, c, k, l, q⟩ => ?_) ht
  subst ex
  obtain rfl : u = Value.ref a := rx
  exact getmeth_ok I1 ea c k l (q s1 I1)
end

/-! ### isinstance -/
section
variable {X : Cx} {pins : List (Addr × Obj)} {σ : St} {H : Hp} {s : Shared} {A : Around} {E : Value → Shared → Prop} {Q : Value → Shared → Prop} {c : Value} {b : Bool}
/-- the type of a value, as the fragment's deciders take it; for an instance its class -/
inductive TyOf (K : PySem.W.Frag) (H : Hp) : V → Value → Prop where
  | non : TyOf K H .non (.type "NoneType")
  | bl (x : Bool) : TyOf K H (.bl x) (.type "bool")
  | int (i : Int) : TyOf K H (.int i) (.type "int")
  | str (x : Str) : TyOf K H (.str x) (.type "str")
  | flt (x : UInt64) : TyOf K H (.flt x) (.type "float")
  | lst {a : Addr} {xs : List V} (e : H a = some (.lst xs)) : TyOf K H (.ref a) (.type "list")
  | frz {a : Addr} {o : Obj} {xs : List V} (e : H a = some (.frz o (.lst xs))) : TyOf K H (.ref a) (.type "list")
  | tup {a : Addr} {xs : List V} (e : H a = some (.tup xs)) : TyOf K H (.ref a) (.type "tuple")
  | dK {a : Addr} {kvs : List (Key × V)} (e : H a = some (.dK kvs)) : TyOf K H (.ref a) (.type "dict")
  | dT {a : Addr} {kvs : List (List Key × V)} (e : H a = some (.dT kvs)) : TyOf K H (.ref a) (.type "dict")
  | ins {a C dx : Addr} {fs : List (Str × V)} (e : H a = some (.ins C dx fs)) (cl : Cls K C) (ha : PySem.W.findIn K (.ref C) "__class__" = some (some (.builtin "object.__class__")))
      (hn : PySem.W.specialIn K (.builtin "object.__class__") "__get__" = some (some (.builtin "getset_descriptor.__get__"))) (htk : PySem.W.takesIn K (.builtin "object.__class__") = some true)
      (hm : PySem.W.mroIn K C (.type "object") = some true) : TyOf K H (.ref a) (.ref C)
/-- isinstance(x, c) for one class c, a built-in or an own one: kitOne's answer -/
theorem isinst_ok {x : V} {u t : Value} (I : Inv X pins σ H s) (rx : RelV x u) (ty : TyOf X.K H x t) (e : PySem.W.kitOne X.K t c = some b) (h : ∀ tk, Q (.bool b) { s with toks := tk }) :
    wpAny (model X.prog X.w) A (call (.builtin "isinstance") [u, c]) Q E s := by
  cases ty with
  | non => cases (show u = Value.none from rx); exact PySem.W.kia_one PySem.W.kitx_none I.kIn True.intro e (fun z => nomatch z) h
  | bl y => cases (show u = Value.bool y from rx); exact PySem.W.kia_one PySem.W.kitx_bool I.kIn True.intro e (fun z => nomatch z) h
  | int i => obtain ⟨t, q⟩ := (show ∃ t, u = Value.int i t from rx); cases q; exact PySem.W.kia_one PySem.W.kitx_int I.kIn True.intro e (fun z => nomatch z) h
  | str y => obtain ⟨t, q⟩ := (show ∃ t, u = Value.str y t from rx); cases q; exact PySem.W.kia_one PySem.W.kitx_str I.kIn True.intro e (fun z => nomatch z) h
  | flt y => obtain ⟨t, q⟩ := (show ∃ t, u = Value.float y t from rx); cases q; exact PySem.W.kia_one PySem.W.kitx_float I.kIn True.intro e (fun z => nomatch z) h
  | @lst a xs ea =>
    cases (show u = Value.ref a from rx)
    obtain ⟨_, _, n, _, h1⟩ := (show ObjOk X.prog X.w H s.heap a (.lst xs) from I.hok a _ ea)
    exact PySem.W.kia_one PySem.W.kitx_list I.kIn ⟨_, h1, rfl⟩ e (fun z => nomatch z) h
  | @frz a ob xs ea =>
    cases (show u = Value.ref a from rx)
    obtain ⟨_, _, _, n, _, h1⟩ := (show ObjOk X.prog X.w H s.heap a (.frz ob (.lst xs)) from I.hok a _ ea)
    exact PySem.W.kia_one PySem.W.kitx_list I.kIn ⟨_, h1, rfl⟩ e (fun z => nomatch z) h
  | @tup a xs ea =>
    cases (show u = Value.ref a from rx)
    obtain ⟨_, _, _, p⟩ := (show ObjOk X.prog X.w H s.heap a (.tup xs) from I.hok a _ ea)
    obtain ⟨o, h1, h2, _⟩ := p
    exact PySem.W.kia_one PySem.W.kitx_tuple I.kIn ⟨o, h1, h2⟩ e (fun z => nomatch z) h
  | @dK a kvs ea =>
    cases (show u = Value.ref a from rx)
    obtain ⟨_, _, vs, _, p⟩ := (show ObjOk X.prog X.w H s.heap a (.dK kvs) from I.hok a _ ea)
    obtain ⟨o, es, ep, h1, h2, _⟩ := p
    exact PySem.W.kia_one PySem.W.kitx_dict I.kIn ⟨o, h1, h2.1⟩ e (fun z => nomatch z) h
  | @dT a kvs ea =>
    cases (show u = Value.ref a from rx)
    obtain ⟨_, _, xs, _, o, es, ep, h1, h2, _⟩ := (show ObjOk X.prog X.w H s.heap a (.dT kvs) from I.hok a _ ea)
    exact PySem.W.kia_one PySem.W.kitx_dict I.kIn ⟨o, h1, h2.1⟩ e (fun z => nomatch z) h
  | @ins a C dx fs ea cl ha hn htk hm =>
    cases (show u = Value.ref a from rx)
    obtain ⟨mA, O, _⟩ := ins_get I.hok ea
    obtain ⟨od, J, _⟩ := O.look
    exact PySem.W.kia_one (PySem.W.kitx_own (cl.get _) cl.hd ha hn htk hm) I.kIn J e (fun z => nomatch z) h
end
end L2

namespace L2
open PySem PySem.Spec PyProof.Rows

/-! ### room -/
structure Room (k : Nat) (A : Around) : Prop where
  hd : A.handled = none
  dp : A.depth + 3 * k + 5 < recursionLimit
  un : A.units + 16 * k + 200 < cLine
theorem Room.mono {j k : Nat} {A : Around} (r : Room k A) (h : j ≤ k) : Room j A := ⟨r.hd, by have := r.dp; omega, by have := r.un; omega⟩
theorem Room.deeper {k : Nat} {A : Around} (r : Room (k + 1) A) (env : Env) : Room k (A.deeper env) :=
  ⟨r.hd, by have := r.dp; show A.depth + 1 + 3 * k + 5 < _; omega, by have := r.un; show A.units + 3 + 16 * k + 200 < _; omega⟩
theorem Room.in1 {k : Nat} {A : Around} (r : Room (k + 1) A) : Room k A.in1 :=
  ⟨r.hd, by have := r.dp; show A.depth + 3 * k + 5 < _; omega, by have := r.un; show A.units + 1 + 16 * k + 200 < _; omega⟩
theorem make_depth {A : Around} {C : Addr} {us : List Value} {kw : List (Str × Value)} : (A.under (.builtin "type.__call__" ⟨.ref C :: us, kw⟩)).depth = A.depth + 1 := by
  first | rfl | simp [Around.under, Code.weight, Code.isCreation, Code.isGuard, Code.isCaller, Code.frames, Code.isFrame, guardIds]
theorem make_units {A : Around} {C : Addr} {us : List Value} {kw : List (Str × Value)} : (A.under (.builtin "type.__call__" ⟨.ref C :: us, kw⟩)).units = A.units + 1 := by
  first | rfl | simp [Around.under, Code.cUnits, Code.frames, Code.isFrame]
theorem Room.make {k : Nat} {A : Around} (r : Room (k + 1) A) (C : Addr) (us : List Value) (kw : List (Str × Value)) : Room k (A.under (.builtin "type.__call__" ⟨.ref C :: us, kw⟩)) :=
  ⟨r.hd, by have := r.dp; rw [make_depth]; omega, by have := r.un; rw [make_units]; omega⟩
theorem Room.depth {k : Nat} {A : Around} (r : Room k A) : A.depth < recursionLimit := by have := r.dp; omega
theorem Room.units {k : Nat} {A : Around} (r : Room k A) : A.units + 64 < cLine := by have := r.un; omega
theorem Room.units0 {k : Nat} {A : Around} (r : Room k A) : A.units < cLine := by have := r.un; omega

/-! ### argument lists and displays -/
def tNil : TA := fun _ H Q => Q [] H
def tCons (ta : TE) (tr : TA) : TA := fun σ H Q => ta σ H fun x H1 => tr σ H1 fun xs H2 => Q (x :: xs) H2
section
variable {X : Cx} {e : Expr} {es : List Expr} {te : TE} {t : TA} {pos : Pos}
theorem pa_nil : PA X [] tNil := fun _ _ _ _ H Q I h => Calls.spliced_nil ⟨[], H, I, .nil, h⟩
theorem pa_cons (ha : PE X e te) (hr : PA X es t) (hs : starEach (e :: es) X.env = (false, eval e X.env) :: starEach es X.env := by rfl) : PA X (e :: es) (tCons te t) := by
  intro pos pins s σ H Q I h
  rw [hs]
  show wpAny _ _ (spliced ((false, eval e X.env) :: backTo pos (starEach es X.env))) _ _ s
  refine Calls.spliced_cons (thn (ha pins s σ H _ I h) fun u s1 ⟨x, H1, I1, r1, q1⟩ => ?_)
  exact thn (hr pos pins s1 σ H1 _ I1 q1) fun us s2 ⟨xs, H2, I2, r2, q2⟩ => ⟨x :: xs, H2, I2, .cons r1 r2, q2⟩

/-- a tuple, a list of written items -/
def tTup (t : TA) : TE := fun σ H Q => t σ H fun xs H1 => xs.length ≤ sizeLine ∧ ∀ p, H1 p = none → Q (.ref p) (upd H1 p (.tup xs))
def tLst (t : TA) : TE := fun σ H Q => t σ H fun xs H1 => xs.length ≤ sizeLine ∧ ∀ p, H1 p = none → Q (.ref p) (upd H1 p (.lst xs))
theorem pe_tup {x1} (h : PA X es t) : PE X (.Tuple es x1 pos) (tTup t) := by
  intro pins s σ H Q I hq
  refine wpAny_Tuple_spliced (thn (h pos pins s σ H _ I hq) fun us s1 ⟨xs, H1, I1, r, z, q⟩ => ⟨by rw [← r.length]; exact z, ?_⟩)
  have hf : H1 s1.heap.objs.size = none := I1.hok.fresh (Nat.le_refl _)
  refine ⟨.ref s1.heap.objs.size, upd H1 s1.heap.objs.size (.tup xs), I1.laid (t' := s1.toks) (fun b u e => Heap.get?_push_of_some _ e) (Nat.le_refl _) ?_, rfl, q _ hf⟩
  exact ⟨z, us, r, ⟨_, Heap.get?_push_size _ rfl, rfl, _, rfl⟩⟩
theorem pe_lst (h : PA X es t) : PE X (.List es pos) (tLst t) := by
  intro pins s σ H Q I hq
  refine wpAny_List_spliced (thn (h pos pins s σ H _ I hq) fun us s1 ⟨xs, H1, I1, r, z, q⟩ => ⟨by rw [← r.length]; exact z, ?_⟩)
  have hf : H1 s1.heap.objs.size = none := I1.hok.fresh (Nat.le_refl _)
  refine ⟨.ref s1.heap.objs.size, upd H1 s1.heap.objs.size (.lst xs), I1.laid (t' := s1.toks) (fun b u e => Heap.get?_push_of_some _ e) (Nat.le_refl _) ?_, rfl, q _ hf⟩
  exact ⟨z, us, 0, r, Heap.get?_push_size _ rfl⟩
end

/-! ### what a def promises -/
/-- a def's promise: the bound arguments in the parameters' order, the heap, the wanted end, the wanted exception -/
abbrev Sp := List V → Hp → VK → XK → Prop
/-- how an exception lies behind a call (file 08 gives it): the callers' frames, abstract heap and state ahead of the call, the wish, the exception, the state -/
abbrev CXT := List Env → Hp → Shared → XK → Value → Shared → Prop

/-- the state at a call -/
structure Env0 (P : Program) (w : World) (K : PySem.W.Frag) (mg : Str → Option Value) (base : Heap) (A : Around) (outer : List Env) (s : Shared) (H : Hp) : Prop where
  frames : A.frames = some outer
  mod : Mod K mg base
  bs : ∀ b o, base.get? b = some o → s.heap.get? b = some o ∧ H b = none
  bsz : base.objs.size ≤ s.heap.objs.size
  funs : s.heap.FunFrames base outer
  frf : ∀ b ∈ frs outer, H b = none
  hok : HOk P w H s.heap
  bare : AllBare s.gens
/-- a call's end -/
def CE (outer : List Env) (P : Program) (w : World) (H : Hp) (s : Shared) (Q : VK) (u : Value) (s' : Shared) : Prop :=
  ∃ v H', s'.os = s.os ∧ AllBare s'.gens ∧ Un (frs outer) [] H H' s.heap s'.heap ∧ HOk P w H' s'.heap ∧ RelV v u ∧ Q v H'
def CR (CX : CXT) (outer : List Env) (P : Program) (w : World) (H : Hp) (s : Shared) (Q : VK) (E : XK) (r : Result) (s' : Shared) : Prop :=
  match r with
  | .ok (.ret u) => CE outer P w H s Q u s'
  | .ok _ => False
  | .error e => CX outer H s E e s'
structure FnOk (P : Program) (w : World) (K : PySem.W.Frag) (mg : Str → Option Value) (base : Heap) (CX : CXT) (k : Nat) (f : Addr) (fd : FuncData) (ps : List Str) (sp : Sp) : Prop where
  len : ∀ vs H Q E, sp vs H Q E → vs.length = ps.length
  run : ∀ (A : Around) (outer : List Env) (s : Shared) (H : Hp) (args : Args) (us : List Value) (vs : List V) (Q : VK) (E : XK), Room k A → Env0 P w K mg base A outer s H → BindsTo s fd args (ps.zip us) → Vals vs us → sp vs H Q E →
    codeAny (model P w) A (.call (.ref f) args) (CR CX outer P w H s Q E) s
theorem FnOk.mono {P : Program} {w : World} {K : PySem.W.Frag} {mg : Str → Option Value} {base : Heap} {CX : CXT} {j k : Nat} {f : Addr} {fd : FuncData} {ps : List Str} {sp : Sp} (F : FnOk P w K mg base CX j f fd ps sp) (h : j ≤ k) :
    FnOk P w K mg base CX k f fd ps sp := ⟨F.len, fun A outer s H args us vs Q E hr => F.run A outer s H args us vs Q E (hr.mono h)⟩
/-- a weaker promise -/
theorem FnOk.imp {P : Program} {w : World} {K : PySem.W.Frag} {mg : Str → Option Value} {base : Heap} {CX : CXT} {k : Nat} {f : Addr} {fd : FuncData} {ps : List Str} {sp sp' : Sp} (F : FnOk P w K mg base CX k f fd ps sp)
    (h : ∀ vs H Q E, sp' vs H Q E → sp vs H Q E) : FnOk P w K mg base CX k f fd ps sp' :=
  ⟨fun vs H Q E q => F.len vs H Q E (h _ _ _ _ q), fun A outer s H args us vs Q E hr he hb hv hs => F.run A outer s H args us vs Q E hr he hb hv (h _ _ _ _ hs)⟩

theorem Env0.make {P : Program} {w : World} {K : PySem.W.Frag} {mg : Str → Option Value} {base : Heap} {A : Around} {outer : List Env} {s : Shared} {H : Hp} (e : Env0 P w K mg base A outer s H) (C : Addr) (us : List Value) (kw : List (Str × Value)) :
    Env0 P w K mg base (A.under (.builtin "type.__call__" ⟨.ref C :: us, kw⟩)) outer s H := ⟨by first | exact e.frames | (simpa [Around.under, Code.envs, Code.isFrame, pushEnvs] using e.frames), e.mod, e.bs, e.bsz, e.funs, e.frf, e.hok, e.bare⟩
theorem Env0.in1 {P : Program} {w : World} {K : PySem.W.Frag} {mg : Str → Option Value} {base : Heap} {A : Around} {outer : List Env} {s : Shared} {H : Hp} (e : Env0 P w K mg base A outer s H) :
    Env0 P w K mg base A.in1 outer s H := ⟨e.frames, e.mod, e.bs, e.bsz, e.funs, e.frf, e.hok, e.bare⟩

section
variable {X : Cx} {pins : List (Addr × Obj)} {σ : St} {H : Hp} {s s' : Shared}
/-- from a body: what a callee wants -/
theorem Inv.env0 (I : Inv X pins σ H s) : Env0 X.prog X.w X.K X.mg X.base X.A X.stack s H :=
  ⟨I.ok.frames, I.ok.mod, I.bs, Nat.le_trans I.ok.bsz I.sz, I.stack, I.stkFree, I.hok, I.bare⟩
/-- behind a call -/
theorem Inv.after {Q : VK} {u : Value} (I : Inv X pins σ H s) (h : CE X.stack X.prog X.w H s Q u s') : EP X pins σ Q u s' := by
  obtain ⟨v, H', os, bare, un, hok, r, q⟩ := h
  obtain ⟨hh, g, d, t, os'⟩ := s'
  obtain rfl : os' = s.os := os
  exact ⟨v, H', I.call (h' := hh) (g' := g) (d' := d) (t' := t) (ch := []) un hok bare (fun b z => absurd z (by simp)), r, q⟩
end

/-! ### calls -/
/-- f(..): the written arguments, then the defaults dvs; E: what is wanted of an exception -/
def tCall (sp : Sp) (dvs : List V) (E : XK) (t : TA) : TE := fun σ H Q => t σ H fun vs H1 => sp (vs ++ dvs) H1 Q E
/-- o.m(..) of an instance of the class at C -/
def tMeth (C : Addr) (m : Str) (sp : Sp) (dvs : List V) (E : XK) (ta : TE) (t : TA) : TE := fun σ H Q => ta σ H fun x H1 => ∃ a dx fs, x = .ref a ∧ H1 a = some (.ins C dx fs) ∧ fs.lookup m = none ∧
  t σ H1 fun vs H2 => sp (x :: (vs ++ dvs)) H2 Q E
/-- C(..): a new instance and its dict, then __init__ -/
def tMake (C : Addr) (sp : Sp) (dvs : List V) (E : XK) (t : TA) : TE := fun σ H Q => t σ H fun vs H1 => ∀ x dx, H1 x = none → H1 dx = none → dx ≠ x →
  sp (.ref x :: (vs ++ dvs)) (upd (upd H1 dx (.own x)) x (.ins C dx [])) (fun v H2 => v = .non ∧ Q (.ref x) H2) E

/-- how the parameters are bound: us the positional arguments, kw the keywords' values by name, ds the defaults that fill up -/
def Binds (K : PySem.W.Frag) (fd : FuncData) (ps : List Str) (ds : List Value) : Prop :=
  ∀ (s : Shared) (us : List Value), K.In s.heap → (us ++ ds).length = ps.length → BindsTo s fd ⟨us, []⟩ (ps.zip (us ++ ds))
/-- every parameter is given -/
theorem Binds.all {K : PySem.W.Frag} {fd : FuncData} {ps : List Str} (h : ∀ us : List Value, us.length = ps.length → bindArgs fd ⟨us, []⟩ = pure (ps.zip us)) : Binds K fd ps [] := fun s us _ hl => by
  rw [List.append_nil] at hl ⊢
  exact .of_eq (h us hl)

/-- an exception of a callee reaches what this body wants of exceptions -/
def Passes (CX : CXT) (X : Cx) (E : XK) : Prop := ∀ (pins : List (Addr × Obj)) (σ : St) (H : Hp) (s : Shared) (e : Value) (s' : Shared), Inv X pins σ H s → CX X.stack H s E e s' → X.xe e s'

section
variable {X : Cx} {CX : CXT} {k : Nat} {f C : Addr} {fd : FuncData} {ps : List Str} {sp : Sp} {dvs : List V} {ds : List Value} {E : XK} {x m : Str} {p pos apos : Pos} {e o : Expr} {es : List Expr} {ta : TE} {t : TA}

/-- the callee runs -/
theorem run_fn {pins : List (Addr × Obj)} {σ : St} {H : Hp} {s : Shared} {Q : VK} {us : List Value} {vs : List V} (F : FnOk X.prog X.w X.K X.mg X.base CX k f fd ps sp) (hr : Room k X.A) (hb : Binds X.K fd ps ds) (hd : Vals dvs ds) (hx : Passes CX X E)
    (I : Inv X pins σ H s) (r : Vals vs us) (h : sp (vs ++ dvs) H Q E) : wpAny (model X.prog X.w) X.A (call (.ref f) us) (EP X pins σ Q) X.xe s := by
  have r2 : Vals (vs ++ dvs) (us ++ ds) := r.append hd
  have hl : (us ++ ds).length = ps.length := by rw [← r2.length]; exact F.len _ _ _ _ h
  refine wpAny_call (codeAny_mono (F.run X.A X.stack s H ⟨us, []⟩ (us ++ ds) (vs ++ dvs) Q E hr I.env0 (hb s us I.kIn hl) r2 h) fun r s' hq => ?_)
  cases r with
  | error e => exact hx pins σ H s e s' I hq
  | ok fl =>
    cases fl with
    | ret u => exact I.after hq
    | next => exact False.elim hq
    | brk => exact False.elim hq
    | cont => exact False.elim hq

theorem pe_call (F : FnOk X.prog X.w X.K X.mg X.base CX k f fd ps sp) (hr : Room k X.A) (hg : Gl X x) (hm : X.mg x = some (.ref f)) (hk : PySem.W.keepIn X.K (.ref f) = true) (hb : Binds X.K fd ps ds) (hd : Vals dvs ds) (hx : Passes CX X E)
    (ha : PA X (e :: es) t) (hdb : (x == ("__debug__" : Str)) = false := by decide) (he : starEach (e :: es) X.env = (false, eval e X.env) :: starEach es X.env := by rfl) (hpl : (backTo pos (starEach es X.env)).any (·.1) = false := by rfl) :
    PE X (.Call (.Name x p) (e :: es) [] pos) (tCall sp dvs E t) := by
  intro pins s σ H Q I h
  refine wpAny_Call_Name_kw (ld_glob I hg hm ?_ hdb)
  refine PySem.W.callWith_K (h₀ := X.base) I.ok.mod.kin hk (thn (ha pos pins s σ H _ I h) fun us s1 ⟨vs, H1, I1, r, q⟩ => ⟨I1.kIn, ?_⟩) he hpl
  exact run_fn F hr hb hd hx I1 r q
theorem pe_call0 (F : FnOk X.prog X.w X.K X.mg X.base CX k f fd ps sp) (hr : Room k X.A) (hg : Gl X x) (hm : X.mg x = some (.ref f)) (hk : PySem.W.keepIn X.K (.ref f) = true) (hb : Binds X.K fd ps ds) (hd : Vals dvs ds) (hx : Passes CX X E)
    (hdb : (x == ("__debug__" : Str)) = false := by decide) : PE X (.Call (.Name x p) [] [] pos) (tCall sp dvs E tNil) := by
  intro pins s σ H Q I h
  refine wpAny_Call_Name_kw (ld_glob I hg hm ?_ hdb)
  exact PySem.W.callWith_K0 I.kIn hk (run_fn (us := []) F hr hb hd hx I .nil h)

/-- o.m(e, ..) -/
theorem pe_meth {pl : Sem Bool} (he : PE X o ta) (c : Cls X.K C) (hm : Meth X.K C m f) (F : FnOk X.prog X.w X.K X.mg X.base CX k f fd ps sp) (hr : Room k X.A) (hb : Binds X.K fd ps ds) (hd : Vals dvs ds) (hx : Passes CX X E) (ha : PA X (e :: es) t)
    (hst : starEach (e :: es) X.env = (false, eval e X.env) :: starEach es X.env := by rfl) (hpl : (backTo pos (starEach es X.env)).any (·.1) = false := by rfl)
    (ht : eval (.Call (.Attribute o m apos) (e :: es) [] pos) X.env = (do
      let ov ← eval o X.env
      standAt apos.atName
      let (f, first) ← holding [ov] (getMethod ov m pl)
      callWith pos f first (backTo pos (starEach (e :: es) X.env)) (backToKw pos (keywordEach [] X.env))) := by rfl) :
    PE X (.Call (.Attribute o m apos) (e :: es) [] pos) (tMeth C m sp dvs E ta t) := by
  intro pins s σ H Q I h
  refine PySem.W.methodCall_KW (pl := pl) (thn (he pins s σ H _ I h) fun u s1 ⟨x, H1, I1, rx, a, dx, fs, ex, ea, l, q⟩ => ?_) ht
  subst ex
  obtain rfl : u = Value.ref a := rx
  refine getmeth_ok I1 ea c hm l ?_
  refine PySem.W.callWith_K (first := [.ref a]) (h₀ := X.base) I.ok.mod.kin hm.kp (thn (ha pos pins s1 σ H1 _ I1 q) fun us s2 ⟨vs, H2, I2, r, q2⟩ => ⟨I2.kIn, ?_⟩) hst hpl
  exact run_fn (us := .ref a :: us) (vs := .ref a :: vs) F hr hb hd hx I2 (.cons rfl r) q2
/-- o.m() -/
theorem pe_meth0 {pl : Sem Bool} (he : PE X o ta) (c : Cls X.K C) (hm : Meth X.K C m f) (F : FnOk X.prog X.w X.K X.mg X.base CX k f fd ps sp) (hr : Room k X.A) (hb : Binds X.K fd ps ds) (hd : Vals dvs ds) (hx : Passes CX X E)
    (ht : eval (.Call (.Attribute o m apos) [] [] pos) X.env = (do
      let ov ← eval o X.env
      standAt apos.atName
      let (f, first) ← holding [ov] (getMethod ov m pl)
      callWith pos f first (backTo pos (starEach [] X.env)) (backToKw pos (keywordEach [] X.env))) := by rfl) :
    PE X (.Call (.Attribute o m apos) [] [] pos) (tMeth C m sp dvs E ta tNil) := by
  intro pins s σ H Q I h
  refine PySem.W.methodCall_KW (pl := pl) (thn (he pins s σ H _ I h) fun u s1 ⟨x, H1, I1, rx, a, dx, fs, ex, ea, l, q⟩ => ?_) ht
  subst ex
  obtain rfl : u = Value.ref a := rx
  refine getmeth_ok I1 ea c hm l ?_
  exact PySem.W.callWith_K0 (first := [.ref a]) I1.kIn hm.kp (run_fn (us := [.ref a]) (vs := [.ref a]) F hr hb hd hx I1 (.cons rfl .nil) q)

/-- what a class must have to be made -/
structure Mk (K : PySem.W.Frag) (C f : Addr) : Prop where
  makes : PySem.W.makesIn K C = true
  init : PySem.W.findIn K (.ref C) "__init__" = some (some (.ref f))
  fn : PySem.W.isFn K (.ref f) = true
  kp : PySem.W.keepIn K (.ref C) = true

theorem run_make {pins : List (Addr × Obj)} {σ : St} {H : Hp} {s : Shared} {Q : VK} {us : List Value} {vs : List V} (M : Mk X.K C f) (F : FnOk X.prog X.w X.K X.mg X.base CX k f fd ps sp) (hr : Room (k + 1) X.A) (hb : Binds X.K fd ps ds) (hd : Vals dvs ds)
    (hx : Passes CX X E) (I : Inv X pins σ H s) (r : Vals vs us)
    (h : ∀ x dx, H x = none → H dx = none → dx ≠ x → sp (.ref x :: (vs ++ dvs)) (upd (upd H dx (.own x)) x (.ins C dx [])) (fun v H2 => v = .non ∧ Q (.ref x) H2) E) :
    wpAny (model X.prog X.w) X.A (call (.ref C) us) (EP X pins σ Q) X.xe s := by
  have hq := h (s.heap.objs.size + 1) s.heap.objs.size (I.hok.fresh (Nat.le_succ _)) (I.hok.fresh (Nat.le_refl _)) (Nat.ne_of_lt (Nat.lt_succ_self _))
  have I2 := Inv.made (C := C) I
  have r2 : Vals (V.ref (s.heap.objs.size + 1) :: (vs ++ dvs)) (Value.ref (s.heap.objs.size + 1) :: (us ++ ds)) := .cons rfl (r.append hd)
  have hl : (Value.ref (s.heap.objs.size + 1) :: us ++ ds).length = ps.length := by
    have e := r2.length
    rw [F.len _ _ _ _ hq] at e
    exact e.symm
  refine wpAny_call (make_map (f := f) I.kIn M.makes M.init (beq_iff_eq.mp M.fn) (codeAny_mono (F.run _ X.stack _ _ ⟨Value.ref (s.heap.objs.size + 1) :: us, []⟩ (Value.ref (s.heap.objs.size + 1) :: (us ++ ds)) _ _ E (hr.make C us [])
    (I2.env0.make C us []) (hb _ (Value.ref (s.heap.objs.size + 1) :: us) I2.kIn hl) r2 hq) fun r s' hq' => ?_))
  cases r with
  | error e => exact hx pins σ _ _ e s' I2 hq'
  | ok fl =>
    cases fl with
    | ret u =>
      obtain ⟨v, H', I3, rv, ev, q3⟩ := I2.after hq'
      subst ev
      exact ⟨rv, ⟨V.ref (s.heap.objs.size + 1), H', I3, rfl, q3⟩⟩
    | next => exact False.elim hq'
    | brk => exact False.elim hq'
    | cont => exact False.elim hq'
theorem pe_make (M : Mk X.K C f) (F : FnOk X.prog X.w X.K X.mg X.base CX k f fd ps sp) (hr : Room (k + 1) X.A) (hg : Gl X x) (hm : X.mg x = some (.ref C)) (hb : Binds X.K fd ps ds) (hd : Vals dvs ds) (hx : Passes CX X E)
    (ha : PA X (e :: es) t) (hdb : (x == ("__debug__" : Str)) = false := by decide) (he : starEach (e :: es) X.env = (false, eval e X.env) :: starEach es X.env := by rfl) (hpl : (backTo pos (starEach es X.env)).any (·.1) = false := by rfl) :
    PE X (.Call (.Name x p) (e :: es) [] pos) (tMake C sp dvs E t) := by
  intro pins s σ H Q I h
  refine wpAny_Call_Name_kw (ld_glob I hg hm ?_ hdb)
  refine PySem.W.callWith_K (h₀ := X.base) I.ok.mod.kin M.kp (thn (ha pos pins s σ H _ I h) fun us s1 ⟨vs, H1, I1, r, q⟩ => ⟨I1.kIn, ?_⟩) he hpl
  exact run_make M F hr hb hd hx I1 r q
theorem pe_make0 (M : Mk X.K C f) (F : FnOk X.prog X.w X.K X.mg X.base CX k f fd ps sp) (hr : Room (k + 1) X.A) (hg : Gl X x) (hm : X.mg x = some (.ref C)) (hb : Binds X.K fd ps ds) (hd : Vals dvs ds) (hx : Passes CX X E)
    (hdb : (x == ("__debug__" : Str)) = false := by decide) : PE X (.Call (.Name x p) [] [] pos) (tMake C sp dvs E tNil) := by
  intro pins s σ H Q I h
  refine wpAny_Call_Name_kw (ld_glob I hg hm ?_ hdb)
  exact PySem.W.callWith_K0 I.kIn M.kp (run_make (us := []) M F hr hb hd hx I .nil h)
end

/-! ### keywords -/
/-- the values of the keywords, from the left -/
def PK (X : Cx) (kws : List Keyword) (t : TA) : Prop :=
  ∀ (pos : Pos) (pins : List (Addr × Obj)) (s : Shared) (σ : St) (H : Hp) (Q : List V → Hp → Prop), Inv X pins σ H s → t σ H Q → wpAny (model X.prog X.w) X.A (evalAll ((backToKw pos (keywordEach kws X.env)).map (·.2))) (AP X pins σ Q) X.xe s
section
variable {X : Cx} {CX : CXT} {k : Nat} {f C : Addr} {fd : FuncData} {ps ks : List Str} {sp : Sp} {E : XK} {x m : Str} {p pos apos kpos : Pos} {e o : Expr} {es : List Expr} {kws : List Keyword} {te ta : TE} {t tk : TA} {nm : Option Str}
theorem pk_nil : PK X [] tNil := fun _ _ _ _ H Q I h => wpAny_evalAll_nil ⟨[], H, I, .nil, h⟩
theorem pk_cons (ha : PE X e te) (hr : PK X kws t) : PK X (⟨nm, e, kpos⟩ :: kws) (tCons te t) := by
  intro pos pins s σ H Q I h
  show wpAny _ _ (evalAll ((do let v ← eval e X.env; standAt pos; pure v) :: (backToKw pos (keywordEach kws X.env)).map (·.2))) _ _ s
  refine wpAny_evalAll_cons (wpAny_bind (thn (ha pins s σ H _ I h) fun u s1 ⟨x, H1, I1, r1, q1⟩ => wpAny_bind (wpAny_standAt (wpAny_pure ?_))))
  exact thn (hr pos pins s1 σ H1 _ I1 q1) fun us s2 ⟨xs, H2, I2, r2, q2⟩ => ⟨x :: xs, H2, I2, .cons r1 r2, q2⟩

/-- how a call with keywords binds: g puts the positional values us and the keywords' values ws (names ks) in the parameters' order, defaults among them -/
structure KBinds (K : PySem.W.Frag) (fd : FuncData) (ps ks : List Str) (g : List Value → List Value → List Value) (gV : List V → List V → List V) : Prop where
  to : ∀ (s : Shared) (us ws : List Value), K.In s.heap → (g us ws).length = ps.length → BindsTo s fd ⟨us, ks.zip ws⟩ (ps.zip (g us ws))
  rel : ∀ {vs : List V} {us : List Value} {zs : List V} {ws : List Value}, Vals vs us → Vals zs ws → Vals (gV vs zs) (g us ws)
def tCallK (sp : Sp) (gV : List V → List V → List V) (E : XK) (t tk : TA) : TE := fun σ H Q => t σ H fun vs H1 => tk σ H1 fun zs H2 => sp (gV vs zs) H2 Q E
variable {g : List Value → List Value → List Value} {gV : List V → List V → List V}
theorem run_fnk {pins : List (Addr × Obj)} {σ : St} {H : Hp} {s : Shared} {Q : VK} {us ws : List Value} {vs zs : List V} (F : FnOk X.prog X.w X.K X.mg X.base CX k f fd ps sp) (hr : Room k X.A) (hb : KBinds X.K fd ps ks g gV) (hx : Passes CX X E)
    (I : Inv X pins σ H s) (r : Vals vs us) (rz : Vals zs ws) (h : sp (gV vs zs) H Q E) : wpAny (model X.prog X.w) X.A (call (.ref f) us (ks.zip ws)) (EP X pins σ Q) X.xe s := by
  have r2 := hb.rel r rz
  have hl : (g us ws).length = ps.length := by rw [← r2.length]; exact F.len _ _ _ _ h
  refine wpAny_call (codeAny_mono (F.run X.A X.stack s H ⟨us, ks.zip ws⟩ (g us ws) (gV vs zs) Q E hr I.env0 (hb.to s us ws I.kIn hl) r2 h) fun r s' hq => ?_)
  cases r with
  | error e => exact hx pins σ H s e s' I hq
  | ok fl =>
    cases fl with
    | ret u => exact I.after hq
    | next => exact False.elim hq
    | brk => exact False.elim hq
    | cont => exact False.elim hq
/-- f(e, .., k = v, ..) -/
theorem pe_callK (F : FnOk X.prog X.w X.K X.mg X.base CX k f fd ps sp) (hr : Room k X.A) (hg : Gl X x) (hm : X.mg x = some (.ref f)) (hk : PySem.W.keepIn X.K (.ref f) = true) (hb : KBinds X.K fd ps ks g gV) (hx : Passes CX X E)
    (ha : PA X (e :: es) t) (hkw : PK X kws tk) (hall : (backToKw pos (keywordEach kws X.env)).all (·.1.isSome) = true := by rfl) (hks : (backToKw pos (keywordEach kws X.env)).filterMap (·.1) = ks := by rfl)
    (hdb : (x == ("__debug__" : Str)) = false := by decide) (he : starEach (e :: es) X.env = (false, eval e X.env) :: starEach es X.env := by rfl)
    (hpl : ((backTo pos (starEach (e :: es) X.env)).any (·.1) || (backToKw pos (keywordEach kws X.env)).any (·.1.isNone)) = false := by rfl) :
    PE X (.Call (.Name x p) (e :: es) kws pos) (tCallK sp gV E t tk) := by
  intro pins s σ H Q I h
  refine wpAny_Call_Name_kw (ld_glob I hg hm ?_ hdb)
  refine PySem.W.callWith_KW (h₀ := X.base) I.ok.mod.kin hk hall (thn (ha pos pins s σ H _ I h) fun us s1 ⟨vs, H1, I1, r, q⟩ => ?_) hpl he
  refine thn (hkw pos pins s1 σ H1 _ I1 q) fun ws s2 ⟨zs, H2, I2, rz, q2⟩ => ⟨I2.kIn, ?_⟩
  rw [hks]
  exact run_fnk F hr hb hx I2 r rz q2
end

/-! ### a def's body keeps its promise -/
/-- names: the parameters first -/
structure FnScope (N P : List Str) (sc : Scope) : Prop where
  kind : sc.kind = .function
  co : sc.isCoroutine = false
  gen : sc.isGenerator = false
  nd : N.Nodup
  pre : N.take P.length = P
  par : ∀ x ∈ P, sc.names.lookup x = some .local ∨ sc.names.lookup x = some .cell
  nofree : ∀ y ∈ sc.names, y.2 ≠ .free

theorem bindL_out {kindOf : Str → Option NameKind} {x : Str} : ∀ {binds : List (Str × Value)} {m : Str → Option Value}, (∀ v, (x, v) ∉ binds) → bindL kindOf binds m x = m x
  | [], _, _ => rfl
  | (n, v) :: r, m, h => by
    unfold bindL
    rw [bindL_out fun w hw => h w (List.mem_cons_of_mem _ hw)]
    split
    · have : x ≠ n := by rintro rfl; exact h v List.mem_cons_self
      simp [this]
    · rfl
theorem bindC_out {kindOf : Str → Option NameKind} {x : Str} : ∀ {binds : List (Str × Value)} {m : Str → Option Value}, (∀ v, (x, v) ∉ binds) → bindC kindOf binds m x = m x
  | [], _, _ => rfl
  | (n, v) :: r, m, h => by
    unfold bindC
    rw [bindC_out fun w hw => h w (List.mem_cons_of_mem _ hw)]
    split
    · rfl
    · have : x ≠ n := by rintro rfl; exact h v List.mem_cons_self
      simp [this]
theorem bindL_get {kindOf : Str → Option NameKind} {x : Str} {v : Value} : ∀ {P : List Str} {vs : List Value} {i : Nat} {m : Str → Option Value}, P.Nodup → P[i]? = some x → vs[i]? = some v → kindOf x = some .local →
    bindL kindOf (P.zip vs) m x = some v
  | [], _, _, _, _, h, _, _ => by simp at h
  | _ :: _, [], _, _, _, _, h, _ => by simp at h
  | p :: P, w :: vs, 0, m, nd, h1, h2, hk => by
    simp at h1 h2; subst h1; subst h2
    show bindL kindOf ((p, w) :: P.zip vs) m p = _
    unfold bindL
    rw [bindL_out fun v hv => (List.nodup_cons.mp nd).1 (List.of_mem_zip hv).1, if_pos hk]
    simp
  | p :: P, w :: vs, i + 1, m, nd, h1, h2, hk => by
    show bindL kindOf ((p, w) :: P.zip vs) m x = _
    unfold bindL
    exact bindL_get (i := i) (List.nodup_cons.mp nd).2 (by simpa using h1) (by simpa using h2) hk
theorem bindC_get {kindOf : Str → Option NameKind} {x : Str} {v : Value} : ∀ {P : List Str} {vs : List Value} {i : Nat} {m : Str → Option Value}, P.Nodup → P[i]? = some x → vs[i]? = some v → kindOf x ≠ some .local →
    bindC kindOf (P.zip vs) m x = some v
  | [], _, _, _, _, h, _, _ => by simp at h
  | _ :: _, [], _, _, _, _, h, _ => by simp at h
  | p :: P, w :: vs, 0, m, nd, h1, h2, hk => by
    simp at h1 h2; subst h1; subst h2
    show bindC kindOf ((p, w) :: P.zip vs) m p = _
    unfold bindC
    rw [bindC_out fun v hv => (List.nodup_cons.mp nd).1 (List.of_mem_zip hv).1, if_neg hk]
    simp
  | p :: P, w :: vs, i + 1, m, nd, h1, h2, hk => by
    show bindC kindOf ((p, w) :: P.zip vs) m x = _
    unfold bindC
    exact bindC_get (i := i) (List.nodup_cons.mp nd).2 (by simpa using h1) (by simpa using h2) hk

/-- the names' values at the entry -/
def start (N : List Str) (vs : List V) : St := vs.map some ++ List.replicate (N.length - vs.length) none

/-- the context of a def's body, at its entry; an exception leaves the frame, then lies as CX says -/
def cxOf (CX : CXT) (P : Program) (w : World) (K : PySem.W.Frag) (mg : Str → Option Value) (base : Heap) (N : List Str) (qual : Str) (scope : Scope) (f : Addr) (cd : Value) (A : Around) (outer : List Env) (s : Shared) (H : Hp) (E : XK) : Cx where
  prog := P
  w := w
  K := K
  mg := mg
  base := base
  A := A.deeper (envOfC qual scope s.heap.objs.size f cd)
  N := N
  s₀ := s
  H₀ := H
  env := envOfC qual scope s.heap.objs.size f cd
  outer := outer
  stack := envOfC qual scope s.heap.objs.size f cd :: outer
  ex := []
  calm := true
  fn := fun _ => true
  pn := []
  xe := fun e s' => wpAny (model P w) (A.deeper (envOfC qual scope s.heap.objs.size f cd)) (leaving (envOfC qual scope s.heap.objs.size f cd) e) (fun _ s'' => CX outer H s E e s'') (fun e' s'' => CX outer H s E e' s'') s'

theorem cell_has {sc : Scope} {n : Nat} {x : Str} (h : sc.names.lookup x = some .cell) : ∃ c, (cellsFrom n sc.names []).lookup x = some c := by
  have q := PySem.W.cellsFrom_some sc.names n [] (.inl h)
  exact Option.isSome_iff_exists.mp q

theorem inv_start {CX : CXT} {P : Program} {w : World} {K : PySem.W.Frag} {mg : Str → Option Value} {base : Heap} {N ps : List Str} {qual : Str} {scope : Scope} {f : Addr} {cd : Value} {A : Around} {outer : List Env} {s s1 : Shared} {H : Hp} {E : XK} {us : List Value} {vs : List V}
    (S : FnScope N ps scope) (hd : A.handled = none) (e0 : Env0 P w K mg base A outer s H) (hl : vs.length = ps.length) (r : Vals vs us)
    (x : InCallC s s.heap.objs.size (bindL (envOfC qual scope s.heap.objs.size f cd).kindOf (ps.zip us) fun _ => none) (cellsFrom (s.heap.objs.size + 1) scope.names []) (bindC (envOfC qual scope s.heap.objs.size f cd).kindOf (ps.zip us) fun _ => none) s1) :
    Inv (cxOf CX P w K mg base N qual scope f cd A outer s H E) [] (start N vs) H s1 := by
  have hpl : ps.length ≤ N.length := by have := congrArg List.length S.pre; rw [List.length_take] at this; omega
  obtain ⟨h1, tk, rfl, hk⟩ := x.done
  have noA : ∀ b : Addr, b ∉ (cxOf CX P w K mg base N qual scope f cd A outer s H E).ex := fun b z => absurd (show b ∈ ([] : List Addr) from z) (by simp)
  refine ⟨⟨e0.mod, S.kind, rfl, rfl, Nat.le_refl _, fun y z c h1 h2 => ?_, fun y hy => ?_, fun y c _ h => ?_, fun _ => hd, Around.frames_deeper e0.frames, .inr ⟨rfl, rfl⟩, fun b z => absurd z (noA b), e0.bs, e0.bsz, fun b _ _ => noA b, fun b z => absurd z (noA b), e0.funs, e0.frf⟩,
    rfl, e0.bare, Un.kept hk, ⟨_, x.toInCall.ns, fun i y v h1 h2 h3 => ?_⟩, fun y c h => ⟨_, x.cell y c h⟩, e0.hok.fresh (Nat.le_refl _), fun y c h => ?_, fun p hp => absurd (show p ∈ ([] : List (Addr × Obj)) from hp) (by simp), e0.hok.kept hk, ?_⟩
  · exact name_of_addr x.apart (PySem.mem_of_lookup h1) (PySem.mem_of_lookup h2)
  · have hy : scope.names.lookup y = some .cell ∨ scope.names.lookup y = some .free := hy
    rcases hy with hy | hy
    · exact cell_has hy
    · exact absurd rfl (S.nofree _ (PySem.mem_of_lookup hy))
  · exact Nat.le_of_lt (x.above y c (PySem.mem_of_lookup h))
  · have hi : i < vs.length := by
      unfold start at h2
      by_cases hi : i < vs.length
      · exact hi
      · rw [List.getElem?_append_right (by simpa using hi)] at h2
        rw [List.getElem?_replicate] at h2
        split at h2 <;> cases h2
    have ha : vs[i]? = some v := by
      unfold start at h2
      rw [List.getElem?_append_left (by simpa using hi), List.getElem?_map] at h2
      cases e : vs[i]? with
      | none => rw [e] at h2; cases h2
      | some a => rw [e] at h2; cases h2; rfl
    obtain ⟨u, hu, rv⟩ := r.get ha
    have hp : ps[i]? = some y := by
      rw [← S.pre, List.getElem?_take_of_lt (by omega)]; exact h1
    have ndP : ps.Nodup := by rw [← S.pre]; exact S.nd.sublist (List.take_sublist _ _)
    refine ⟨u, rv, ?_⟩
    rcases S.par y (List.mem_of_getElem? hp) with k | k
    · exact .inl ⟨k, bindL_get ndP hp hu k⟩
    · obtain ⟨c, e⟩ := cell_has (n := s.heap.objs.size + 1) k
      refine .inr ⟨.inl k, c, e, ?_⟩
      have q := x.cell y c e
      rw [bindC_get ndP hp hu (by show scope.names.lookup y ≠ _; rw [k]; decide)] at q
      exact q
  · exact e0.hok.fresh (Nat.le_of_lt (x.above y c (PySem.mem_of_lookup h)))
  · unfold start
    show _ = N.length
    rw [List.length_append, List.length_map, List.length_replicate]
    omega

/-- THE RULE: a def (or a method) of the text, by its body. The body's reading t is chosen for each entry; it is run at the parameters' values -/
theorem fn_of {CX : CXT} {P : Program} {w : World} {K : PySem.W.Frag} {mg : Str → Option Value} {base : Heap} {k : Nat} {f : Addr} {name qual : Str} {params : Arguments} {body : List Stmt} {scope : Scope} {dV kV doc pm cdv ct oc : Value} {an od : Option Addr}
    {osl : Array (Option Value)} {N ps : List Str} {sp : Sp} (lk : K.lookup f = some ⟨oc, od, .func (PySem.W.fnOf name qual params body scope dV kV doc pm an cdv ct), osl⟩) (hcd : PySem.W.codeIn K cdv qual = true) (S : FnScope N ps scope)
    (len : ∀ vs H Q E, sp vs H Q E → vs.length = ps.length)
    (hbody : ∀ (A : Around) (outer : List Env) (s : Shared) (H : Hp) (vs : List V) (Q : VK) (E : XK), Room k (A.deeper (envOfC qual scope s.heap.objs.size f cdv)) → sp vs H Q E →
      ∃ t, PSs (cxOf CX P w K mg base N qual scope f cdv A outer s H E) body t ∧ t { nx := fun _ H' => Q .non H', rt := Q } (start N vs) H) :
    FnOk P w K mg base CX (k + 1) f (PySem.W.fnOf name qual params body scope dV kV doc pm an cdv ct) ps sp := by
  refine ⟨len, fun A outer s H args us vs Q E hr e0 hb r hsp => ?_⟩
  have hl := len _ _ _ _ hsp
  have KX : K.In s.heap := e0.mod.kin.keeps fun b o e => (e0.bs b o e).1
  have lim : s.heap.NoLimit := e0.mod.nolimit.keeps fun b o e => (e0.bs b o e).1
  have hkind : ∀ y ∈ ps.zip us, scope.names.lookup y.1 = some .local ∨ (scope.names.lookup y.1 = some .cell ∧ ((cellsFrom (s.heap.objs.size + 1) scope.names []).lookup y.1).isSome = true) := fun ⟨n, v⟩ hy => by
    rcases S.par n (List.of_mem_zip hy).1 with q | q
    · exact .inl q
    · exact .inr ⟨q, PySem.W.cellsFrom_some _ _ _ (.inl q)⟩
  refine codeAny_call_function hr.depth (KX _ _ lk) rfl S.co S.gen rfl (PySem.W.codeRec_of KX hcd) (hb _ _ _ _ ?_)
  refine wpAny_newFunctionEnv_cells S.kind hkind fun env he s1 x => ?_
  subst he
  refine ⟨lim.keeps x.toInCall.keep, codeAny_func ?_⟩
  obtain ⟨t, ht, hq⟩ := hbody A outer s H vs Q E (hr.deeper _) hsp
  have I : Inv (cxOf CX P w K mg base N qual scope f cdv A outer s H E) [] (start N vs) H s1 := inv_start S hr.hd e0 hl r x
  refine wpAny_mono (ht [] s1 (start N vs) H _ I hq) (fun fl s' hs => ?_) fun e s' hs => hs
  have fin : ∀ {σ' : St} {H' : Hp} {v : V} {u : Value}, Inv (cxOf CX P w K mg base N qual scope f cdv A outer s H E) [] σ' H' s' → RelV v u → Q v H' → CE outer P w H s Q u s' :=
    fun {σ' H' v u} J rv q => ⟨v, H', J.os, J.bare, J.base, J.hok, rv, q⟩
  cases fl with
  | ret u =>
    obtain ⟨v, σ', H', J, rv, q⟩ := hs
    exact fin J rv q
  | next =>
    obtain ⟨σ', H', J, q⟩ := hs
    exact fin (v := V.non) (u := Value.none) J rfl q
  | brk =>
    obtain ⟨_, _, _, q⟩ := hs
    exact False.elim q
  | cont =>
    obtain ⟨_, _, _, q⟩ := hs
    exact False.elim q
end L2

namespace L2
open PySem PySem.Spec PyProof.Rows
section
variable {X : Cx} {x : Str} {p pos : Pos} {e : Expr} {es : List Expr} {t : TA} {id T : String} {r : List V → Hp → VK → Prop}

def tCB (r : List V → Hp → VK → Prop) (t : TA) : TE := fun σ H Q => t σ H fun vs H1 => r vs H1 Q
/-- f(e, ..), f a built-in function -/
theorem pe_callB (hc : CallR X (.builtin id) r) (hg : Gl X x) (hm : X.mg x = none) (hv : bootBuiltins x = some (.builtin id)) (ha : PA X (e :: es) t) (hn : x ≠ "__name__" := by decide) (hdb : (x == ("__debug__" : Str)) = false := by decide)
    (he : starEach (e :: es) X.env = (false, eval e X.env) :: starEach es X.env := by rfl) (hpl : (backTo pos (starEach es X.env)).any (·.1) = false := by rfl) : PE X (.Call (.Name x p) (e :: es) [] pos) (tCB r t) := by
  intro pins s σ H Q I h
  refine wpAny_Call_Name_kw (ld_blt I hg hm hv ?_ hn hdb)
  exact PyProof.Rows.callWith_builtin1 (thn (ha pos pins s σ H _ I h) fun us s1 ⟨vs, H1, I1, r1, q1⟩ => hc pins s1 σ H1 vs us Q I1 r1 q1) he hpl
/-- T(e, ..), T a built-in type -/
theorem pe_callTy (hc : CallR X (.type T) r) (hg : Gl X x) (hm : X.mg x = none) (hv : bootBuiltins x = some (.type T)) (ha : PA X (e :: es) t) (hn : x ≠ "__name__" := by decide) (hdb : (x == ("__debug__" : Str)) = false := by decide)
    (he : starEach (e :: es) X.env = (false, eval e X.env) :: starEach es X.env := by rfl) (hpl : (backTo pos (starEach es X.env)).any (·.1) = false := by rfl) : PE X (.Call (.Name x p) (e :: es) [] pos) (tCB r t) := by
  intro pins s σ H Q I h
  refine wpAny_Call_Name_kw (ld_blt I hg hm hv ?_ hn hdb)
  exact PyProof.Rows.callWith_type1 (thn (ha pos pins s σ H _ I h) fun us s1 ⟨vs, H1, I1, r1, q1⟩ => hc pins s1 σ H1 vs us Q I1 r1 q1) he hpl
/-- T() -/
theorem pe_callTy0 (hc : CallR X (.type T) r) (hg : Gl X x) (hm : X.mg x = none) (hv : bootBuiltins x = some (.type T)) (hn : x ≠ "__name__" := by decide) (hdb : (x == ("__debug__" : Str)) = false := by decide) :
    PE X (.Call (.Name x p) [] [] pos) (tCB r tNil) := by
  intro pins s σ H Q I h
  refine wpAny_Call_Name_kw (ld_blt I hg hm hv ?_ hn hdb)
  exact PyProof.Rows.callWith_type0 (hc pins s σ H [] [] Q I .nil h)
end
end L2

namespace HT
open PySem PyProof.Rows

/-- t < u of tuples of ints -/
def lexLt : List Int → List Int → Bool
  | [], [] => false
  | [], _ :: _ => true
  | _ :: _, [] => false
  | x :: xs, y :: ys => if x = y then lexLt xs ys else decide (x < y)
theorem lexLt_cons (x y : Int) (xs ys : List Int) : lexLt (x :: xs) (y :: ys) = if x = y then lexLt xs ys else decide (x < y) := rfl
theorem lexLt_nil_nil : lexLt [] [] = false := rfl
theorem lexLt_nil_cons (y : Int) (ys : List Int) : lexLt [] (y :: ys) = true := rfl
theorem lexLt_cons_nil (x : Int) (xs : List Int) : lexLt (x :: xs) [] = false := rfl

theorem eqAt_int (A : Around) (s : Shared) (a : Int) (t : Tok) (c : Int) (u : Tok) : ∃ e, SeqAt.EqAt A s (.int a t) (.int c u) e ∧ (e = true ↔ a = c) :=
  ⟨(a == c), SeqAt.EqAt.int_int a t c u, by simp⟩
theorem rcLt_int (A : Around) (s : Shared) (a : Int) (t : Tok) (c : Int) (u : Tok) (prog : Program) (w : World) (E : Value → Shared → Prop) (Q : Value → Shared → Prop) (h : Q (.bool (decide (a < c))) s) :
    wpAny (model prog w) A (richCompare .Lt (.int a t) (.int c u)) Q E s :=
  (PyProof.Rows.lt_int h : wpAny (model prog w) A (compareOp .Lt (.int a t) (.int c u)) Q E s)

section
open PySem.SeqAt
open PySem.AutoSeq1 (wpAny_loadPart')
open PySem.MeetsSeq PySem.MeetsSeq2 PySem.MeetsSeq3

theorem tuple_lt_ints (l b : Addr) (items items2 : Array Value) (n n2 : Nat) (dd dd2 : Option Addr) (sl sl2 : Array (Option Value)) (ns ms : List Int) (hi : IntsAre items.toList ns) (hj : IntsAre items2.toList ms) :
    Meets (Builtin.«tuple.__lt__» ⟨[.ref l, .ref b], []⟩)
      (fun _ R s => s.heap.get? l = some { cls := .type "tuple", dict := dd, data := .seq items n, slots := sl } ∧ s.heap.get? b = some { cls := .type "tuple", dict := dd2, data := .seq items2 n2, slots := sl2 } ∧
        R (.ok (.ret (.bool (lexLt ns ms)))) s) :=
  .of_wp fun prog w A R s h => by
    obtain ⟨hp, g, d, tk, os⟩ := s; obtain ⟨hl, hb, h⟩ := h
    have f2 := AutoSeq1.sub_tuple_tuple
    have z1 : items.size = ns.length := by rw [← hi.length]; simp
    have z2 : items2.size = ms.length := by rw [← hj.length]; simp
    wp_walk using wpAny_loadPart' hl, wpAny_loadPart' hb, wpAny_forIn_list _ (fun rest b s' => b.1 = none ∧ s' = ⟨hp, g, d, tk, os⟩ ∧ ∃ (vs ws : List Value) (ns' ms' : List Int), rest = vs.zip ws ∧
      IntsAre vs ns' ∧ IntsAre ws ms' ∧ ns'.length + items2.size = ms'.length + items.size ∧ R (.ok (.ret (.bool (lexLt ns' ms')))) ⟨hp, g, d, tk, os⟩) _
    case turn =>
      rintro ⟨y, x⟩ rest b s' ⟨hb', rfl, vs, ws, ns', ms', hz, hvi, hwi, hlen, hR⟩
      cases hvi with
      | nil => rw [List.zip_nil_left] at hz; cases hz
      | cons a t hvi' =>
        cases hwi with
        | nil => rw [List.zip_nil_right] at hz; cases hz
        | cons c u hwi' =>
          rw [List.zip_cons_cons] at hz
          injection hz with hyx hrest
          injection hyx with hy hx
          subst hy hx
          rw [lexLt_cons] at hR
          simp only [List.length_cons] at hlen
          obtain ⟨e, he, hiff⟩ := eqAt_int A.in1 ⟨hp, g, d, tk, os⟩ a t c u
          refine wpAny_bind (he prog w _ _ ?_)
          cases e with
          | true =>
            rw [if_pos (hiff.mp rfl)] at hR
            wp_walk
            exact ⟨rfl, rfl, _, _, _, _, hrest, hvi', hwi', by omega, hR⟩
          | false =>
            rw [if_neg (fun q => absurd (hiff.mpr q) Bool.false_ne_true)] at hR
            have hri := rcLt_int A.in1 ⟨hp, g, d, tk, os⟩ a t c u prog w
            wp_walk using hri
            exact ⟨_, rfl, by simpa using hR⟩
    case fin =>
      rintro ⟨b1, b2⟩ s' ⟨hb', rfl, vs, ws, ns', ms', hz, hvi, hwi, hlen, hR⟩
      simp only at hb'
      subst hb'
      have hv : lexLt ns' ms' = decide (items.size < items2.size) := by
        cases hvi with
        | nil =>
          cases hwi with
          | nil =>
            simp only [List.length_nil] at hlen
            rw [lexLt_nil_nil]
            exact (decide_eq_false (by omega)).symm
          | cons c u hw =>
            simp only [List.length_nil, List.length_cons] at hlen
            rw [lexLt_nil_cons]
            exact (decide_eq_true (by omega)).symm
        | cons a t hv =>
          cases hwi with
          | nil =>
            simp only [List.length_nil, List.length_cons] at hlen
            rw [lexLt_cons_nil]
            exact (decide_eq_false (by omega)).symm
          | cons c u hw =>
            rw [List.zip_cons_cons] at hz
            cases hz
      rw [hv] at hR
      wp_walk
      exact ⟨_, rfl, by simpa [Builtin.Tuple.tupleCompareSizes] using hR⟩
    case h =>
      exact ⟨rfl, rfl, items.toList, items2.toList, ns, ms, rfl, hi, hj, by omega, h⟩
end

section
variable {prog : Program} {w : World} {A : Around} {E : Value → Shared → Prop} {s : Shared}

theorem lt_tupInts {l b : Addr} {items items2 : Array Value} {ns ms : List Int} {Q : Value → Shared → Prop} (hl : IsTup s.heap l items) (hb : IsTup s.heap b items2) (hi : IntsAre items.toList ns) (hj : IntsAre items2.toList ms)
    (hu : A.units < cLine) (h : Q (.bool (lexLt ns ms)) s) : wpAny (model prog w) A (compareOp .Lt (.ref l) (.ref b)) Q E s := by
  obtain ⟨⟨cls, dd, data, sl⟩, ho, hc, n, hd⟩ := id hl
  obtain ⟨⟨cls2, dd2, data2, sl2⟩, ho2, hc2, n2, hd2⟩ := id hb
  simp only at hc hd hc2 hd2
  subst hc hd hc2 hd2
  exact richCompare_meets_room (op := .Lt) ⟨_, ho, rfl⟩ ⟨_, ho2, rfl⟩ PySem.F.slot_tuple_lt PySem.F.entry_tuple_lt (PySem.F.args_tuple_lt_2 _ _) (tuple_lt_ints l b items items2 n n2 dd dd2 sl sl2 ns ms hi hj)
    ⟨ho, ho2, show Value.bool (lexLt ns ms) ≠ Value.notImplemented ∧ Q (.bool (lexLt ns ms)) s from ⟨(fun x => nomatch x), h⟩⟩ hu

/-- t + u, t not empty -/
theorem cat_tup {t b : Addr} {vs ws : List Value} {Q : Value → Shared → Prop} (ht : IsTup s.heap t vs.toArray) (hb : IsTup s.heap b ws.toArray) (hv : vs ≠ [])
    (h1 : ws = [] → Q (.ref t) s) (h2 : ws ≠ [] → Q (.ref s.heap.objs.size) { s with heap := s.heap.push { cls := .type "tuple", data := .seq (vs ++ ws).toArray } })
    (hsz : vs.length + ws.length ≤ sizeLine) : wpAny (model prog w) A (binaryOp .Add (.ref t) (.ref b)) Q E s := by
  obtain ⟨⟨cls, dd, data, sl⟩, ho, hc, n, hd⟩ := id ht
  obtain ⟨⟨cls2, dd2, data2, sl2⟩, ho2, hc2, n2, hd2⟩ := id hb
  simp only at hc hd hc2 hd2
  subst hc hd hc2 hd2
  have e : vs.toArray ++ ws.toArray = (vs ++ ws).toArray := by simp
  by_cases hw : ws = []
  · exact concat_meets ⟨_, ho, rfl⟩ ⟨_, ho2, rfl⟩ noFill_tuple_add seq_tuple_add PySem.F.slot_tuple_add PySem.F.entry_tuple_add (PySem.F.args_tuple_add_2 _ _)
      (tuple_addW1 t b vs.toArray ws.toArray n n2 dd dd2 sl sl2 (by simpa using hv) (by simp [hw])) ⟨ho, ho2, h1 hw⟩
  · refine concat_meets ⟨_, ho, rfl⟩ ⟨_, ho2, rfl⟩ noFill_tuple_add seq_tuple_add PySem.F.slot_tuple_add PySem.F.entry_tuple_add (PySem.F.args_tuple_add_2 _ _)
      (tuple_addW2 t b vs.toArray ws.toArray n n2 dd dd2 sl sl2 (by simpa using hv) (by simpa using hw) (by rw [List.size_toArray, List.size_toArray]; exact hsz)) ⟨ho, ho2, ?_⟩
    rw [e]
    exact h2 hw

/-! ### t[a:b], not the whole -/
/-- a slice's bound as a place among n (d where it is left out) -/
def sIx (n d : Nat) : Option Int → Nat
  | none => d
  | some v => if v < 0 then (v + (n : Int)).toNat else min v.toNat n
theorem sIx_none (n d : Nat) : sIx n d none = d := rfl
theorem sIx_nat (n d k : Nat) : sIx n d (some (k : Int)) = min k n := by
  show (if (k : Int) < 0 then ((k : Int) + (n : Int)).toNat else min (k : Int).toNat n) = min k n
  rw [if_neg (by omega), Int.toNat_natCast]
theorem sIx_le (n d : Nat) (hd : d ≤ n) (o : Option Int) : sIx n d o ≤ n := by
  cases o with
  | none => exact hd
  | some v =>
    show (if v < 0 then (v + (n : Int)).toNat else min v.toNat n) ≤ n
    by_cases hv : v < 0
    · rw [if_pos hv]; omega
    · rw [if_neg hv]; exact Nat.min_le_right _ _
theorem clip_eq (v : Int) (n d : Nat) : (if v < 0 then max (v + (n : Int)) 0 else min v (n : Int)) = ((sIx n d (some v) : Nat) : Int) := by
  show (if v < 0 then max (v + (n : Int)) 0 else min v (n : Int)) = (((if v < 0 then (v + (n : Int)).toNat else min v.toNat n) : Nat) : Int)
  by_cases hv : v < 0
  · simp only [if_pos hv]; omega
  · simp only [if_neg hv]; omega
theorem adjust_gen (lo hi : Option Int) (n : Nat) : Builtin.Slice.sliceAdjust lo hi 1 (n : Int) = (((sIx n 0 lo : Nat) : Int), ((sIx n n hi : Nat) : Int)) := by
  have h1 : ¬ ((1 : Int) < 0) := by omega
  unfold Builtin.Slice.sliceAdjust
  simp only [h1, if_false]
  refine Prod.ext ?_ ?_
  · cases lo with
    | none => rfl
    | some v => exact clip_eq v n 0
  · cases hi with
    | none => rfl
    | some v => exact clip_eq v n n
theorem places_gen (i j : Nat) : Builtin.Slice.slicePlaces (i : Int) (j : Int) 1 = j - i := by
  unfold Builtin.Slice.slicePlaces
  have h1 : (1 : Int) > 0 := by omega
  simp only [h1, if_true, Int.ediv_one]
  split <;> omega
theorem slicePart_ {v : Value} {o : Option Int} {Q : Option Int → Shared → Prop} (p : IsPart v o) (h : Q o s) : wpAny (model prog w) A (Builtin.Slice.slicePartIndex v) Q E s := by
  cases p with
  | none => exact slicePart_none h
  | int i t => exact slicePart_int h
theorem sliceApplied_gen {sl : Addr} {vl vu : Value} {lo hi : Option Int} {n : Nat} {Q : Int × Int × Nat → Shared → Prop} (hs : s.heap.IsSliceOf sl vl vu .none) (pl : IsPart vl lo) (pu : IsPart vu hi)
    (h : Q (((sIx n 0 lo : Nat) : Int), 1, sIx n n hi - sIx n 0 lo) s) : wpAny (model prog w) A (Builtin.Slice.sliceApplied (.ref sl) (pure (n : Int))) Q E s := by
  obtain ⟨os, hos, hcs, hds⟩ := id hs
  unfold Builtin.Slice.sliceApplied Builtin.Slice.sliceFields
  refine wpAny_bind (wpAny_bind (wpAny_field hos hds (x := vl) rfl (wpAny_bind (wpAny_field hos hds (x := vu) rfl (wpAny_bind (wpAny_field hos hds (x := .none) rfl (wpAny_pure ?_)))))))
  refine wpAny_bind (slicePart_none ?_)
  show wpAny _ _ (if ((1 : Int) == 0) = true then _ else _) _ _ s
  rw [if_neg (by decide)]
  refine wpAny_bind (slicePart_ pl (wpAny_bind (slicePart_ pu (wpAny_bind (wpAny_pure ?_)))))
  show wpAny _ _ (match Builtin.Slice.sliceAdjust lo hi 1 (n : Int) with | (lo, hi) => pure (lo, (1 : Int), Builtin.Slice.slicePlaces lo hi 1)) _ _ s
  rw [adjust_gen lo hi n]
  show wpAny _ _ (pure (((sIx n 0 lo : Nat) : Int), (1 : Int), Builtin.Slice.slicePlaces ((sIx n 0 lo : Nat) : Int) ((sIx n n hi : Nat) : Int) 1)) _ _ s
  rw [places_gen]
  exact wpAny_pure h
theorem pick_gen (xs : Array Value) (i k : Nat) : ((List.range k).filterMap fun (m : Nat) => xs[((i : Int) + (m : Int) * 1).toNat]?).toArray = ((xs.toList.drop i).take k).toArray := by
  have e : (fun (m : Nat) => xs[((i : Int) + (m : Int) * 1).toNat]?) = fun m => xs[i + m]? := by
    funext m
    have : ((i : Int) + (m : Int) * 1).toNat = i + m := by omega
    rw [this]
  rw [e]
  have := pick_run xs i k
  rw [List.filterMap_map] at this
  have e2 : ((fun x => xs[x]?) ∘ fun x => i + x) = fun m => xs[i + m]? := rfl
  rw [e2] at this
  rw [this]

theorem getItem_tuple_cut {t sl : Addr} {items : Array Value} {vl vu : Value} {lo hi : Option Int} {Q : Value → Shared → Prop} (ht : IsTup s.heap t items) (hs : s.heap.IsSliceOf sl vl vu .none) (pl : IsPart vl lo) (pu : IsPart vu hi)
    (hw : ¬ (sIx items.size 0 lo = 0 ∧ sIx items.size items.size hi = items.size))
    (h : Q (.ref s.heap.objs.size) { s with heap := s.heap.push { cls := .type "tuple", data := .seq ((items.toList.drop (sIx items.size 0 lo)).take (sIx items.size items.size hi - sIx items.size 0 lo)).toArray } })
    (hsz : items.size ≤ sizeLine) : wpAny (model prog w) A (getItem (.ref t) (.ref sl)) Q E s := by
  have htake : sizeOk (.seq ((items.toList.drop (sIx items.size 0 lo)).take (sIx items.size items.size hi - sIx items.size 0 lo)).toArray) := by
    show ((items.toList.drop (sIx items.size 0 lo)).take (sIx items.size items.size hi - sIx items.size 0 lo)).toArray.size ≤ sizeLine
    rw [List.size_toArray, List.length_take, List.length_drop, Array.length_toList]
    omega
  have hj : sIx items.size items.size hi ≤ items.size := sIx_le _ _ (Nat.le_refl _) hi
  obtain ⟨os, hos, hcs, hds⟩ := id hs
  have hTs : s.TypeIs (.ref sl) "slice" := ⟨os, hos, hcs⟩
  unfold getItem
  try with_reducible refine wpAny_holding ?_
  first | refine wpAny_bind (wpAny_pure ?_) | skip
  refine wpAny_bind (wpAny_sequenceKey ht.typeIs (by decide) ?_)
  refine wpAny_bind (wpAny_callSpecial?_slot (name := Str.ofString "__getitem__") ht.typeIs PyProof.Rows.slot_tuple_getitem
    (wpAny_call_entry PyProof.Rows.slot_tuple_getitem ht.typeIs entry_tuple_getitem ?_ (args_tuple_getitem _ _)))
  show wpAny _ _ (Builtin.Tuple.tupleItemsOf (.ref t) >>= _) _ _ s
  refine wpAny_bind (tupleItemsOf_ ht ?_)
  refine wpAny_bind (wpAny_typeOf hTs ?_)
  rw [if_pos (by decide)]
  refine wpAny_bind (sliceApplied_gen hs pl pu ?_)
  have hno : ¬ ((((sIx items.size 0 lo : Nat) : Int) == 0 && (1 : Int) == 1 && (sIx items.size items.size hi - sIx items.size 0 lo) == items.size) = true) := by
    intro q
    rw [Bool.and_eq_true, Bool.and_eq_true] at q
    have q1 : ((sIx items.size 0 lo : Nat) : Int) = 0 := eq_of_beq q.1.1
    have q2 : sIx items.size items.size hi - sIx items.size 0 lo = items.size := eq_of_beq q.2
    exact hw ⟨by omega, by omega⟩
  show wpAny _ _ (if (((sIx items.size 0 lo : Nat) : Int) == 0 && (1 : Int) == 1 && (sIx items.size items.size hi - sIx items.size 0 lo) == items.size) = true then _ else _) _ _ s
  rw [if_neg hno, pick_gen]
  first
    | exact wpAny_bind (m := Builtin.Tuple.tupleExact _) (wpAny_newObj_type (wpAny_pure ⟨_, rfl, wpAny_pure h⟩) htake)
    | exact wpAny_bind (m := Builtin.Tuple.tupleExact _) (wpAny_newObj_type (wpAny_bind (wpAny_pure (wpAny_pure ⟨_, rfl, wpAny_pure h⟩))) htake)
    | exact wpAny_bind (wpAny_bind (m := Builtin.Tuple.tupleExact _) (wpAny_newObj_type (wpAny_pure (wpAny_pure ⟨_, rfl, wpAny_pure h⟩)) htake))
    | exact wpAny_bind (wpAny_bind (m := Builtin.Tuple.tupleExact _) (wpAny_newObj_type (wpAny_pure ⟨_, rfl, wpAny_pure h⟩) htake))
end
end HT

namespace L2
open PySem PySem.Spec PyProof.Rows

/-! ### the parts of a slice -/
abbrev TO := St → Hp → (Option Int → Hp → Prop) → Prop
/-- a slice's part (left out, or an int) -/
def PO (X : Cx) (e : Option Expr) (t : TO) : Prop :=
  ∀ (pins : List (Addr × Obj)) (s : Shared) (σ : St) (H : Hp) (Q : Option Int → Hp → Prop), Inv X pins σ H s → t σ H Q →
    wpAny (model X.prog X.w) X.A (evalPart e X.env) (fun u s' => ∃ o H', Inv X pins σ H' s' ∧ IsPart u o ∧ Q o H') X.xe s
def tNoPart : TO := fun _ H Q => Q none H
def tPart (t : TE) : TO := fun σ H Q => t σ H fun x H1 => ∃ i, x = .int i ∧ Q (some i) H1

theorem intsAre_of {ns : List Int} : ∀ {us : List Value}, Vals (ns.map V.int) us → IntsAre us ns := by
  induction ns with
  | nil => intro us r; rw [List.map_nil] at r; cases r; exact .nil
  | cons n ns ih =>
    intro us r
    rw [List.map_cons] at r
    cases r with
    | cons r1 r2 =>
      obtain ⟨t, e⟩ := r1
      subst e
      exact .cons n t (ih r2)

section
variable {X : Cx} {e : Expr} {te : TE} {lo hi : Option Expr} {tl th : TO} {pos p2 : Pos}

theorem po_none : PO X none tNoPart := by
  intro pins s σ H Q I h
  rw [evalPart_none]
  exact wpAny_pure ⟨none, H, I, .none, h⟩
theorem po_some (h : PE X e te) : PO X (some e) (tPart te) := by
  intro pins s σ H Q I hw
  rw [evalPart_some]
  refine thn (h pins s σ H _ I hw) fun u s1 ⟨x, H1, I1, r1, q1⟩ => ?_
  obtain ⟨i, rfl, q⟩ := q1
  obtain ⟨t, rfl⟩ := r1
  exact ⟨some i, H1, I1, .int i t, q⟩

/-- what a slice of a value is, by values: the slice object stands at sl -/
def SlR (X : Cx) (r : V → Option Int → Option Int → Hp → VK → Prop) : Prop :=
  ∀ (pins : List (Addr × Obj)) (s : Shared) (σ : St) (H : Hp) (x : V) (v vl vu : Value) (lo hi : Option Int) (sl : Addr) (Q : VK), Inv X pins σ H s → RelV x v → s.heap.IsSliceOf sl vl vu .none → IsPart vl lo → IsPart vu hi → r x lo hi H Q →
    ∃ T id, typeLookup (.type T) "__getitem__" = pure (some (.builtin id)) ∧ s.TypeIs v T ∧ wpAny (model X.prog X.w) X.A (getItem v (.ref sl)) (EP X pins σ Q) X.xe s
theorem SlR.or {r r' : V → Option Int → Option Int → Hp → VK → Prop} (h : SlR X r) (h' : SlR X r') : SlR X (fun x lo hi H Q => r x lo hi H Q ∨ r' x lo hi H Q) := by
  intro pins s σ H x v vl vu lo hi sl Q I rx hs pl pu q
  rcases q with q | q
  · exact h pins s σ H x v vl vu lo hi sl Q I rx hs pl pu q
  · exact h' pins s σ H x v vl vu lo hi sl Q I rx hs pl pu q
def tSl (r : V → Option Int → Option Int → Hp → VK → Prop) (te : TE) (tl th : TO) : TE := fun σ H Q => te σ H fun x H1 => tl σ H1 fun l H2 => th σ H2 fun u H3 => r x l u H3 Q
/-- a[lo:hi], any a -/
theorem pe_slice {r : V → Option Int → Option Int → Hp → VK → Prop} (hr : SlR X r) (he : PE X e te) (hl : PO X lo tl) (hu : PO X hi th) : PE X (.Subscript e (.Slice lo hi none p2) pos) (tSl r te tl th) := by
  intro pins s σ H Q I h
  refine Subscript_ (thn (he pins s σ H _ I h) fun v s1 ⟨x, H1, I1, r1, q1⟩ => ?_)
  refine wpAny_Slice (thn (hl pins s1 σ H1 _ I1 q1) fun vl s2 ⟨l, H2, I2, pl, q2⟩ => thn (hu pins s2 σ H2 _ I2 q2) fun vu s3 ⟨u, H3, I3, pu, q3⟩ => ?_)
  rw [evalPart_none]
  refine wpAny_pure ?_
  have I4 : Inv X pins σ H3 { s3 with heap := s3.heap.push { cls := .type "slice", data := .fields #[vl, vu, .none] } } := I3.kept (t' := s3.toks) fun b ob q => Heap.get?_push_of_some _ q
  obtain ⟨T, id, hT, ht, hg⟩ := hr pins { s3 with heap := s3.heap.push { cls := .type "slice", data := .fields #[vl, vu, .none] } } σ H3 x v vl vu l u s3.heap.objs.size Q I4 r1 (Heap.IsSliceOf.new ..) pl pu q3
  show wpAny (model X.prog X.w) X.A (subscriptTail e (.Slice lo hi none p2) v (.ref s3.heap.objs.size)) (EP X pins σ Q) X.xe { s3 with heap := s3.heap.push { cls := .type "slice", data := .fields #[vl, vu, .none] } }
  exact tail_any (ops := [.ref s3.heap.objs.size, v]) ht hT hg (by with_unfolding_all rfl)

/-- the items of xs[lo:hi] -/
def cutV (xs : List V) (lo hi : Option Int) : List V := (xs.drop (HT.sIx xs.length 0 lo)).take (HT.sIx xs.length xs.length hi - HT.sIx xs.length 0 lo)
theorem cutV_length (xs : List V) (lo hi : Option Int) : (cutV xs lo hi).length ≤ xs.length := by
  unfold cutV
  rw [List.length_take, List.length_drop]
  omega
/-- t[lo:hi], not the whole of it (the whole would be t itself) -/
def rSlT (K : PySem.W.Frag) : V → Option Int → Option Int → Hp → VK → Prop := fun x lo hi H Q => ∃ a xs, x = .ref a ∧ SqT K H a xs ∧
  ¬ (HT.sIx xs.length 0 lo = 0 ∧ HT.sIx xs.length xs.length hi = xs.length) ∧ ∀ p, H p = none → Q (.ref p) (upd H p (.tup (cutV xs lo hi)))
theorem sl_tup : SlR X (rSlT X.K) := by
  intro pins s σ H x v vl vu lo hi sl Q I rx hs pl pu h
  obtain ⟨a, xs, rfl, hx, hw, q⟩ := h
  cases rx
  obtain ⟨its, r, ht, hz⟩ := I.tuple hx
  have hlen : its.toArray.size = xs.length := by rw [List.size_toArray]; exact r.length.symm
  refine ⟨"tuple", _, PyProof.Rows.slot_tuple_getitem.lookup, ht.typeIs, ?_⟩
  refine HT.getItem_tuple_cut ht hs pl pu (by rw [hlen]; exact hw) ?_ (by rw [hlen]; exact hz)
  rw [hlen]
  refine ⟨.ref s.heap.objs.size, _, I.laid (t' := s.toks) (o := .tup (cutV xs lo hi)) (fun b ob q => Heap.get?_push_of_some _ q) (Nat.le_refl _) ?_, rfl, q _ (I.hok.fresh (Nat.le_refl _))⟩
  exact ⟨Nat.le_trans (cutV_length xs lo hi) hz, _, (r.drop (HT.sIx xs.length 0 lo)).take (HT.sIx xs.length xs.length hi - HT.sIx xs.length 0 lo), IsTup.new _ _⟩

/-! ### t < u, t + u -/
def rLtT (K : PySem.W.Frag) : R2 := fun x y H Q => ∃ a b ns ms, x = .ref a ∧ y = .ref b ∧ SqT K H a (ns.map V.int) ∧ SqT K H b (ms.map V.int) ∧ Q (.bl (HT.lexLt ns ms)) H
theorem op_ltT (hu : X.A.units < cLine) : OpR X (compareOp .Lt) (rLtT X.K) := by
  intro pins s σ H x y v u Q I rx ry h
  obtain ⟨a, b, ns, ms, rfl, rfl, ha, hb, q⟩ := h
  cases rx
  cases ry
  obtain ⟨its, r1, p1, _⟩ := I.tuple ha
  obtain ⟨its2, r2, p2, _⟩ := I.tuple hb
  have i1 : IntsAre its.toArray.toList ns := intsAre_of r1
  have i2 : IntsAre its2.toArray.toList ms := intsAre_of r2
  exact HT.lt_tupInts p1 p2 i1 i2 hu ⟨.bl (HT.lexLt ns ms), H, I, rfl, q⟩
/-- t + u, t not empty: u empty gives t itself -/
def rCatT (K : PySem.W.Frag) : R2 := fun x y H Q => ∃ a b xs ys, x = .ref a ∧ y = .ref b ∧ SqT K H a xs ∧ SqT K H b ys ∧ xs ≠ [] ∧ xs.length + ys.length ≤ sizeLine ∧
  (ys = [] → Q (.ref a) H) ∧ (ys ≠ [] → ∀ p, H p = none → Q (.ref p) (upd H p (.tup (xs ++ ys))))
theorem Vals.nil_iff {xs : List V} {us : List Value} (r : Vals xs us) : us = [] ↔ xs = [] := by
  cases r with
  | nil => simp
  | cons _ _ => simp
theorem op_catT : OpR X (binaryOp .Add) (rCatT X.K) := by
  intro pins s σ H x y v u Q I rx ry h
  obtain ⟨a, b, xs, ys, rfl, rfl, ha, hb, hx, hz, q1, q2⟩ := h
  cases rx
  cases ry
  obtain ⟨its, r1, p1, _⟩ := I.tuple ha
  obtain ⟨its2, r2, p2, _⟩ := I.tuple hb
  refine HT.cat_tup p1 p2 (fun z => hx (r1.nil_iff.mp z)) (fun z => ⟨.ref a, H, I, rfl, q1 (r2.nil_iff.mp z)⟩) (fun z => ?_) (by rw [← r1.length, ← r2.length]; exact hz)
  refine ⟨.ref s.heap.objs.size, _, I.laid (t' := s.toks) (o := .tup (xs ++ ys)) (fun b ob q => Heap.get?_push_of_some _ q) (Nat.le_refl _) ?_, rfl, q2 (fun w => z (r2.nil_iff.mpr w)) _ (I.hok.fresh (Nat.le_refl _))⟩
  exact ⟨by rw [List.length_append]; exact hz, _, r1.append r2, IsTup.new _ _⟩
/-- tuple(t) -/
theorem call_tupleT : CallR X (.type "tuple") (fun xs H Q => ∃ a ys, xs = [.ref a] ∧ SqT X.K H a ys ∧ Q (.ref a) H) := by
  intro pins s σ H xs us Q I r h
  obtain ⟨a, ys, rfl, ha, q⟩ := h
  obtain ⟨u, rfl, ru⟩ := vals1 r
  cases ru
  obtain ⟨its, _, p1, _⟩ := I.tuple ha
  exact call_tuple_same (items := its.toArray) p1 ⟨.ref a, H, I, rfl, q⟩
end
end L2

namespace L2
open PySem PySem.Spec PyProof.Rows

/-! ### places -/
/-- the place that an index of any sign means -/
def ixN (n : Nat) (i : Int) : Option Nat := if 0 ≤ i then (if i < n then some i.toNat else none) else if -(n : Int) ≤ i then some (i + n).toNat else none
def atI {α : Type} (xs : List α) (i : Int) : Option α := (ixN xs.length i).bind fun j => xs[j]?
theorem ixN_seq {n : Nat} {i : Int} {j : Nat} (h : ixN n i = some j) : seqIndex? i n = some j ∧ j < n ∧ -(n : Int) ≤ i ∧ i < n := by
  unfold ixN at h
  by_cases h0 : 0 ≤ i
  · rw [if_pos h0] at h
    by_cases h1 : i < n
    · rw [if_pos h1] at h
      have e : i.toNat = j := Option.some.inj h
      exact ⟨by rw [seqIndex_of h0 h1, e], by omega, by omega, h1⟩
    · rw [if_neg h1] at h; cases h
  · rw [if_neg h0] at h
    by_cases h1 : -(n : Int) ≤ i
    · rw [if_pos h1] at h
      have e : (i + n).toNat = j := Option.some.inj h
      exact ⟨by rw [seqIndex_neg (by omega) h1, e], by omega, h1, by omega⟩
    · rw [if_neg h1] at h; cases h
theorem atI_get {α : Type} {xs : List α} {i : Int} {v : α} (h : atI xs i = some v) : ∃ j, seqIndex? i xs.length = some j ∧ xs[j]? = some v ∧ j < xs.length ∧ -(xs.length : Int) ≤ i ∧ i < xs.length := by
  unfold atI at h
  cases e : ixN xs.length i with
  | none => rw [e] at h; cases h
  | some j =>
    rw [e] at h
    obtain ⟨h1, h2, h3, h4⟩ := ixN_seq e
    exact ⟨j, h1, h, h2, h3, h4⟩
theorem atI_nat {α : Type} {xs : List α} {j : Nat} {v : α} (h : xs[j]? = some v) : atI xs (j : Int) = some v := by
  have hj : j < xs.length := (List.getElem?_eq_some_iff.mp h).1
  have e : ixN xs.length (j : Int) = some j := by
    unfold ixN
    rw [if_pos (by omega), if_pos (by omega)]; simp
  unfold atI; rw [e]; exact h
theorem atI_last {α : Type} (xs : List α) (v : α) : atI (xs ++ [v]) (-1) = some v := by
  have hl : (xs ++ [v]).length = xs.length + 1 := by simp
  have e : ixN (xs ++ [v]).length (-1) = some xs.length := by
    unfold ixN
    rw [hl, if_neg (by decide), if_pos (by omega)]
    congr 1
    omega
  unfold atI
  rw [e]
  show (xs ++ [v])[xs.length]? = some v
  simp

/-! ### what may be subscripted -/
/-- what stands as an index of a plain subscript -/
def PlainIx (b : Expr) : Prop := ∀ o i, subscripted b false o i = operate [o, i] (getItem o i)
/-- a subscript by values -/
def IxR (X : Cx) (r : R2) : Prop :=
  ∀ (value slice : Expr) (pins : List (Addr × Obj)) (s : Shared) (σ : St) (H : Hp) (x y : V) (v u : Value) (Q : VK), Inv X pins σ H s → RelV x v → RelV y u → r x y H Q →
    subscripted slice false v u = operate [v, u] (getItem v u) → wpAny (model X.prog X.w) X.A (subscriptTail value slice v u) (EP X pins σ Q) X.xe s
/-- a call of a builtin's method by values: the receiver, the arguments -/
def MtR (X : Cx) (id : String) (r : V → List V → Hp → VK → Prop) : Prop :=
  ∀ (pins : List (Addr × Obj)) (s : Shared) (σ : St) (H : Hp) (x : V) (xs : List V) (v : Value) (us : List Value) (Q : VK), Inv X pins σ H s → RelV x v → Vals xs us → r x xs H Q →
    wpAny (model X.prog X.w) X.A (call (.builtin id) (v :: us)) (EP X pins σ Q) X.xe s
section
variable {X : Cx} {a b : Expr} {ta tb : TE} {pos : Pos}
theorem IxR.or {r r' : R2} (h : IxR X r) (h' : IxR X r') : IxR X (fun x y H Q => r x y H Q ∨ r' x y H Q) := by
  intro value slice pins s σ H x y v u Q I rx ry q hs
  rcases q with q | q
  · exact h value slice pins s σ H x y v u Q I rx ry q hs
  · exact h' value slice pins s σ H x y v u Q I rx ry q hs
theorem MtR.or {id : String} {r r' : V → List V → Hp → VK → Prop} (h : MtR X id r) (h' : MtR X id r') : MtR X id (fun x xs H Q => r x xs H Q ∨ r' x xs H Q) := by
  intro pins s σ H x xs v us Q I rx rs q
  rcases q with q | q
  · exact h pins s σ H x xs v us Q I rx rs q
  · exact h' pins s σ H x xs v us Q I rx rs q
/-- a[b] -/
theorem pe_ix {r : R2} (hr : IxR X r) (ha : PE X a ta) (hb : PE X b tb) (hs : PlainIx b) : PE X (.Subscript a b pos) (tOp r ta tb) := by
  intro pins s σ H Q I h
  exact Subscript_ (binT ha hb I h fun v u s2 x y H2 I2 rx ry q => hr a b pins s2 σ H2 x y v u Q I2 rx ry q (hs _ _))

def rIxL (K : PySem.W.Frag) : R2 := fun x y H Q => ∃ p xs i v, x = .ref p ∧ y = .int i ∧ SqL K H p xs ∧ atI xs i = some v ∧ Q v H
def rIxT (K : PySem.W.Frag) : R2 := fun x y H Q => ∃ p xs i v, x = .ref p ∧ y = .int i ∧ SqT K H p xs ∧ atI xs i = some v ∧ Q v H
def rIxS : R2 := fun x y H Q => ∃ z i c, x = .str z ∧ y = .int i ∧ z.length ≤ sizeLine ∧ atI z.cps.toList i = some c ∧ Q (.str ⟨#[c]⟩) H
theorem ix_list : IxR X (rIxL X.K) := by
  intro value slice pins s σ H x y v u Q I rx ry h hs
  obtain ⟨p, xs, i, z, rfl, rfl, hq, he, q⟩ := h
  cases rx
  obtain ⟨t, rfl⟩ := ry
  obtain ⟨its, r, pl, hz⟩ := I.list hq
  obtain ⟨j, h1, h2, h3, h4, h5⟩ := atI_get he
  obtain ⟨w, ew, rw'⟩ := r.get h2
  have hl := r.length
  have hn := line63
  have fin : EP X pins σ Q w s := ⟨z, H, I, rw', q⟩
  by_cases h0 : 0 ≤ i
  · have hj : i.toNat = j := by
      rw [seqIndex_of h0 h5] at h1
      exact Option.some.inj h1
    exact item_listR pl.isList h0 (by omega) (by rw [hj]; simpa using ew) fin hs
  · have hj : (i + (its.toArray.size : Int)).toNat = j := by
      rw [seqIndex_neg (by omega) h4] at h1
      rw [List.size_toArray, ← hl]
      exact Option.some.inj h1
    exact subscriptTail_builtinR (x := w) pl.isList.typeIs slot_list_getitem.lookup
      (wpAny_getItem_list_neg (Q := fun r s' => r = w ∧ EP X pins σ Q r s') pl.isList (by omega) (by rw [List.size_toArray] <;> omega) (by omega) (by rw [hj]; simpa using ew) ⟨rfl, fin⟩) hs
theorem ix_tup : IxR X (rIxT X.K) := by
  intro value slice pins s σ H x y v u Q I rx ry h hs
  obtain ⟨p, xs, i, z, rfl, rfl, hq, he, q⟩ := h
  cases rx
  obtain ⟨t, rfl⟩ := ry
  obtain ⟨its, r, pl, hz⟩ := I.tuple hq
  obtain ⟨j, h1, h2, h3, h4, h5⟩ := atI_get he
  obtain ⟨w, ew, rw'⟩ := r.get h2
  have hl := r.length
  have hn := line63
  have fin : EP X pins σ Q w s := ⟨z, H, I, rw', q⟩
  exact subscriptTail_builtinR (x := w) pl.typeIs slot_tuple_getitem.lookup
    (getItem_tuple (j := j) (Q := fun r s' => r = w ∧ EP X pins σ Q r s') pl (by omega) (by omega) (by rw [List.size_toArray, ← hl]; exact h1) (by simpa using ew) ⟨rfl, fin⟩) hs
theorem ix_str : IxR X rIxS := by
  intro value slice pins s σ H x y v u Q I rx ry h hs
  obtain ⟨z, i, c, rfl, rfl, hz, he, q⟩ := h
  obtain ⟨t, rfl⟩ := rx
  obtain ⟨t', rfl⟩ := ry
  obtain ⟨j, h1, h2, h3, h4, h5⟩ := atI_get he
  have hl : z.cps.toList.length = z.length := by simp [Str.length]
  rw [hl] at h1 h4 h5
  have hn := line63
  exact tail_any (typeIs_str s z t) slot_str_getitem.lookup (getItem_str (c := c) (by
    have e1 : decide (i < -(2 ^ 63 : Int)) = false := decide_eq_false (by omega)
    have e2 : decide (i ≥ 2 ^ 63) = false := decide_eq_false (by omega)
    rw [e1, e2, Bool.or_false]) (by rw [h1]; simpa using h2) ⟨.str ⟨#[c]⟩, H, I.tok _, ⟨_, rfl⟩, q⟩) hs
/-- list, tuple or str -/
def rIx (K : PySem.W.Frag) : R2 := fun x y H Q => rIxL K x y H Q ∨ rIxT K x y H Q ∨ rIxS x y H Q
theorem ix_seq : IxR X (rIx X.K) := ix_list.or (ix_tup.or ix_str)

/-! ### xs[i] = v, any sign -/
/-- the list's object behind a store -/
theorem mapSeq_set (its : List Value) (n j : Nat) (u : Value) : Obj.mapSeq (·.setIfInBounds j u) { cls := .type "list", data := .seq its.toArray n } = { cls := .type "list", data := .seq (its.set j u).toArray n } := by
  simp [Obj.mapSeq]
theorem Inv.lst {pins : List (Addr × Obj)} {σ : St} {H : Hp} {s : Shared} {p : Addr} {xs : List V} (I : Inv X pins σ H s) (h : H p = some (.lst xs)) :
    ∃ (its : List Value) (n : Nat), Vals xs its ∧ s.heap.get? p = some { cls := .type "list", data := .seq its.toArray n } ∧ xs.length ≤ sizeLine := by
  obtain ⟨z, its, n, r, e⟩ := I.hok p _ h
  exact ⟨its, n, r, e, z⟩
/-- the list at p is written by an update of its object -/
theorem Inv.lstUpd {pins : List (Addr × Obj)} {σ : St} {H : Hp} {s : Shared} {p : Addr} {xs ys : List V} {its its' : List Value} {n n' : Nat} {f : Obj → Obj} (I : Inv X pins σ H s) (h : H p = some (.lst xs))
    (ho : s.heap.get? p = some { cls := .type "list", data := .seq its.toArray n }) (hf : f { cls := .type "list", data := .seq its.toArray n } = { cls := .type "list", data := .seq its'.toArray n' }) (r : Vals ys its') (hz : ys.length ≤ sizeLine) (t : Nat) :
    Inv X pins σ (upd H p (.lst ys)) { s with heap := s.heap.update p f, toks := t } := by
  have e : (s.heap.update p f).get? p = some { cls := .type "list", data := .seq its'.toArray n' } := by
    rw [Heap.get?_update_self f ho (by rw [hf] <;> rfl), hf]
  refine I.write (x := p) (e := p) (by rw [h]; trivial) (.inl rfl) (fun b u hb q => (Heap.get?_update_other _ _ (Ne.symm hb)).trans q) ⟨_, e⟩ ?_
  exact ⟨hz, its', n', r, e⟩
def rSetL : V → V → V → Hp → (Hp → Prop) → Prop := fun o i v H Q => ∃ p xs k j, o = .ref p ∧ i = .int k ∧ H p = some (.lst xs) ∧ ixN xs.length k = some j ∧ Q (upd H p (.lst (xs.set j v)))
theorem set_list : PSet X rSetL := by
  intro pins s σ H o i v ov iv u Q I ro ri rv h
  obtain ⟨p, xs, k, j, rfl, rfl, hp, hj, q⟩ := h
  cases ro
  obtain ⟨t, rfl⟩ := ri
  obtain ⟨its, n, r, ho, hz⟩ := I.lst hp
  obtain ⟨h1, h2, h3, h4⟩ := ixN_seq hj
  have hl := r.length
  have hn := line63
  have I' : Inv X pins σ (upd H p (.lst (xs.set j v))) { s with heap := s.heap.update p (Obj.mapSeq (·.setIfInBounds j u)) } :=
    I.lstUpd hp ho (mapSeq_set its n j u) (r.set rv j) (by rw [List.length_set]; exact hz) s.toks
  by_cases h0 : 0 ≤ k
  · have hk : k.toNat = j := by
      rw [seqIndex_of h0 h4] at h1
      exact Option.some.inj h1
    exact PySem.W.ki_setAt ho h0 (by omega) (by rw [List.size_toArray, ← hl]; exact h4) (by rw [hk]; exact ⟨_, I', q⟩)
  · have hk : (k + (its.toArray.size : Int)).toNat = j := by
      rw [seqIndex_neg (by omega) h3] at h1
      rw [List.size_toArray, ← hl]
      exact Option.some.inj h1
    exact PySem.W.ki_setBack ho (by omega) (by rw [List.size_toArray, ← hl]; exact h3) (by omega) (by rw [hk]; exact ⟨_, I', q⟩)

/-! ### slices -/
theorem slice_bounds (lo hi : Option Int) (n : Nat) : (sliceBounds lo hi none n).1 = ((HT.sIx n 0 lo : Nat) : Int) ∧ (sliceBounds lo hi none n).2.1 = ((HT.sIx n n hi : Nat) : Int) ∧ (sliceBounds lo hi none n).2.2 = 1 := by
  refine ⟨?_, ?_, rfl⟩
  · cases lo with
    | none => simp [sliceBounds, HT.sIx]
    | some i =>
      simp only [sliceBounds, HT.sIx, Option.getD_none, show (1 : Int) > 0 by decide, if_true]
      by_cases h : i < 0
      · simp only [h, if_true] <;> omega
      · simp only [h, if_false] <;> omega
  · cases hi with
    | none => simp [sliceBounds, HT.sIx]
    | some i =>
      simp only [sliceBounds, HT.sIx, Option.getD_none, show (1 : Int) > 0 by decide, if_true]
      by_cases h : i < 0
      · simp only [h, if_true] <;> omega
      · simp only [h, if_false] <;> omega
theorem slicePick_cut (its : List Value) (lo hi : Option Int) : slicePick its.toArray lo hi none = ((its.drop (HT.sIx its.length 0 lo)).take (HT.sIx its.length its.length hi - HT.sIx its.length 0 lo)).toArray := by
  obtain ⟨h1, h2, h3⟩ := slice_bounds lo hi its.toArray.size
  unfold slicePick
  rw [h1, h2, h3]
  simp only [sliceRange_one, pick_run, List.size_toArray] <;> rfl
/-- xs[lo:hi] of a list: a new list -/
def rSlL (K : PySem.W.Frag) : V → Option Int → Option Int → Hp → VK → Prop := fun x lo hi H Q => ∃ a xs, x = .ref a ∧ SqL K H a xs ∧ ∀ p, H p = none → Q (.ref p) (upd H p (.lst (cutV xs lo hi)))
theorem sl_list : SlR X (rSlL X.K) := by
  intro pins s σ H x v vl vu lo hi sl Q I rx hs pl pu h
  obtain ⟨a, xs, rfl, hx, q⟩ := h
  cases rx
  obtain ⟨its, r, ht, hz⟩ := I.list hx
  have hlen := r.length
  refine ⟨"list", _, slot_list_getitem.lookup, ht.isList.typeIs, ?_⟩
  refine wpAny_getItem_list_slice ht.isList hs pl pu .none (by simp) ?_ (by rw [List.size_toArray] <;> omega)
  rw [slicePick_cut, ← hlen]
  refine ⟨.ref s.heap.objs.size, _, I.laid (t' := s.toks) (o := .lst (cutV xs lo hi)) (fun b ob q => Heap.get?_push_of_some _ q) (Nat.le_refl _) ?_, rfl, q _ (I.hok.fresh (Nat.le_refl _))⟩
  exact ⟨Nat.le_trans (cutV_length xs lo hi) hz, _, 0, (r.drop (HT.sIx xs.length 0 lo)).take (HT.sIx xs.length xs.length hi - HT.sIx xs.length 0 lo), Heap.get?_push_size _ rfl⟩

/-! ### in, not in: flat items -/
def flatV : V → Bool
  | .non => true
  | .bl _ => true
  | .int _ => true
  | .str _ => true
  | _ => false
/-- == of flat values -/
def eqV : V → V → Bool
  | .non, .non => true
  | .bl a, .bl b => a == b
  | .bl a, .int b => (if a then 1 else 0) == b
  | .int a, .bl b => a == (if b then 1 else 0)
  | .int a, .int b => a == b
  | .str a, .str b => a == b
  | _, _ => false
theorem eqAt_V {A : Around} {s : Shared} {y x : V} {u v : Value} (ry : RelV y u) (rx : RelV x v) (fy : flatV y = true) (fx : flatV x = true) : SeqAt.EqAt A s u v (eqV y x) := by
  cases y with
  | non =>
    cases ry
    cases x with
    | non => cases rx; exact SeqAt.EqAt.same _
    | bl b => cases rx; exact SeqAt.EqAt.none_bool b
    | int b => obtain ⟨t, rfl⟩ := rx; exact SeqAt.EqAt.none_int b t
    | str b => obtain ⟨t, rfl⟩ := rx; exact SeqAt.EqAt.none_str b t
    | _ => exact absurd (show false = true from fx) Bool.false_ne_true
  | bl a =>
    cases ry
    cases x with
    | non => cases rx; exact SeqAt.EqAt.bool_none a
    | bl b => cases rx; exact SeqAt.EqAt.bool_bool a b
    | int b => obtain ⟨t, rfl⟩ := rx; exact SeqAt.EqAt.bool_int a b t
    | str b => obtain ⟨t, rfl⟩ := rx; exact SeqAt.EqAt.bool_str a b t
    | _ => exact absurd (show false = true from fx) Bool.false_ne_true
  | int a =>
    obtain ⟨t', rfl⟩ := ry
    cases x with
    | non => cases rx; exact SeqAt.EqAt.int_none a t'
    | bl b => cases rx; exact SeqAt.EqAt.int_bool a t' b
    | int b => obtain ⟨t, rfl⟩ := rx; exact SeqAt.EqAt.int_int a t' b t
    | str b => obtain ⟨t, rfl⟩ := rx; exact SeqAt.EqAt.int_str a t' b t
    | _ => exact absurd (show false = true from fx) Bool.false_ne_true
  | str a =>
    obtain ⟨t', rfl⟩ := ry
    cases x with
    | non => cases rx; exact SeqAt.EqAt.str_none a t'
    | bl b => cases rx; exact SeqAt.EqAt.str_bool a t' b
    | int b => obtain ⟨t, rfl⟩ := rx; exact SeqAt.EqAt.str_int a t' b t
    | str b => obtain ⟨t, rfl⟩ := rx; exact SeqAt.EqAt.str_str a t' b t
    | _ => exact absurd (show false = true from fx) Bool.false_ne_true
  | _ => exact absurd (show false = true from fy) Bool.false_ne_true
/-- the items' answers, read off the values (a value's own answer does not lean on its token) -/
def eqU (x : V) (u : Value) : Bool := match u with
  | .none => eqV .non x
  | .bool b => eqV (.bl b) x
  | .int i _ => eqV (.int i) x
  | .str z _ => eqV (.str z) x
  | _ => false
theorem eqU_of {x y : V} {u : Value} (r : RelV y u) (f : flatV y = true) : eqU x u = eqV y x := by
  cases y with
  | non => cases r; rfl
  | bl b => cases r; rfl
  | int i => obtain ⟨t, rfl⟩ := r; rfl
  | str z => obtain ⟨t, rfl⟩ := r; rfl
  | _ => exact absurd (show false = true from f) Bool.false_ne_true
theorem any_eqU {x : V} : ∀ {xs : List V} {us : List Value}, Vals xs us → xs.all flatV = true → us.any (eqU x) = xs.any fun y => eqV y x
  | _, _, .nil, _ => rfl
  | y :: xs, u :: us, .cons r t, f => by
    rw [List.all_cons, Bool.and_eq_true] at f
    rw [List.any_cons, List.any_cons, eqU_of r f.1, any_eqU t f.2]
theorem mem_eqAt {A : Around} {s : Shared} {x : V} {v : Value} (rx : RelV x v) (fx : flatV x = true) : ∀ {xs : List V} {us : List Value}, Vals xs us → xs.all flatV = true → ∀ u ∈ us, SeqAt.EqAt A s u v (eqU x u)
  | _, _, .nil, _ => fun u hu => by cases hu
  | y :: xs, u :: us, .cons r t, f => fun u' hu => by
    rw [List.all_cons, Bool.and_eq_true] at f
    rcases List.mem_cons.mp hu with rfl | hu
    · rw [eqU_of r f.1]; exact eqAt_V r rx f.1 fx
    · exact mem_eqAt rx fx t f.2 u' hu
def inV (x : V) (xs : List V) : Bool := xs.any fun y => eqV y x
/-- x in a list or tuple of flat items -/
def rIn (K : PySem.W.Frag) (neg : Bool) : R2 := fun x y H Q => ∃ p xs, y = .ref p ∧ (SqL K H p xs ∨ SqT K H p xs) ∧ flatV x = true ∧ xs.all flatV = true ∧ Q (.bl (if neg then !inV x xs else inV x xs)) H
theorem op_in_seq : OpR X (compareOp .In) (rIn X.K false) := by
  intro pins s σ H x y v u Q I rx ry h
  obtain ⟨p, xs, rfl, hq, fx, fs, q⟩ := h
  cases ry
  rcases hq with hq | hq
  · obtain ⟨its, r, pl, hz⟩ := I.list hq
    refine SeqAt.in_listAt (eqU x) pl.isList (fun w hw => mem_eqAt rx fx r fs w (by simpa using hw)) ⟨.bl _, H, I, rfl, ?_⟩
    rw [show its.toArray.any (eqU x) = its.any (eqU x) by simp, any_eqU r fs]
    exact q
  · obtain ⟨its, r, pl, hz⟩ := I.tuple hq
    refine SeqAt.in_tupleAt (eqU x) pl (fun w hw => mem_eqAt rx fx r fs w (by simpa using hw)) ⟨.bl _, H, I, rfl, ?_⟩
    rw [show its.toArray.any (eqU x) = its.any (eqU x) by simp, any_eqU r fs]
    exact q
theorem op_notIn_seq : OpR X (compareOp .NotIn) (rIn X.K true) := by
  intro pins s σ H x y v u Q I rx ry h
  obtain ⟨p, xs, rfl, hq, fx, fs, q⟩ := h
  cases ry
  rcases hq with hq | hq
  · obtain ⟨its, r, pl, hz⟩ := I.list hq
    refine SeqAt.notIn_listAt (eqU x) pl.isList (fun w hw => mem_eqAt rx fx r fs w (by simpa using hw)) ⟨.bl _, H, I, rfl, ?_⟩
    rw [show its.toArray.any (eqU x) = its.any (eqU x) by simp, any_eqU r fs]
    exact q
  · obtain ⟨its, r, pl, hz⟩ := I.tuple hq
    refine SeqAt.notIn_tupleAt (eqU x) pl (fun w hw => mem_eqAt rx fx r fs w (by simpa using hw)) ⟨.bl _, H, I, rfl, ?_⟩
    rw [show its.toArray.any (eqU x) = its.any (eqU x) by simp, any_eqU r fs]
    exact q
theorem op_notIn_str : OpR X (compareOp .NotIn) (fun x y H Q => ∃ i j, x = .str i ∧ y = .str j ∧ Q (.bl (!(!(Builtin.Str.occurrences j i 0 j.length 1).isEmpty))) H) := by
  intro pins s σ H x y v u Q I rx ry h
  obtain ⟨i, j, rfl, rfl, q⟩ := h
  obtain ⟨t, rfl⟩ := rx
  obtain ⟨t', rfl⟩ := ry
  exact notIn_str ⟨.bl _, H, I, rfl, q⟩

/-! ### len, list(x), tuple(x) of any list or tuple that is read -/
theorem call_len_seq : CallR X (.builtin "len") (fun xs H Q => ∃ p ys, xs = [.ref p] ∧ (SqL X.K H p ys ∨ SqT X.K H p ys) ∧ Q (.int ys.length) H) := by
  intro pins s σ H xs us Q I r h
  obtain ⟨p, ys, rfl, hq, q⟩ := h
  obtain ⟨u, rfl, rx⟩ := vals1 r
  cases rx
  have hn := line63
  rcases hq with hq | hq
  · obtain ⟨its, r', pl, hz⟩ := I.list hq
    have hlen := r'.length
    exact Calls.call_len_list pl.isList (by simp only [List.size_toArray] <;> omega) ⟨.int ys.length, H, I.tok _, ⟨s.toks + 1, by rw [List.size_toArray, hlen]⟩, q⟩
  · obtain ⟨its, r', pl, hz⟩ := I.tuple hq
    have hlen := r'.length
    exact len_tuple pl (by simp only [List.size_toArray] <;> omega) ⟨.int ys.length, H, I.tok _, ⟨s.toks + 1, by rw [List.size_toArray, hlen]⟩, q⟩
theorem call_len_str : CallR X (.builtin "len") (fun xs H Q => ∃ z, xs = [.str z] ∧ z.length ≤ sizeLine ∧ Q (.int z.length) H) := by
  intro pins s σ H xs us Q I r h
  obtain ⟨z, rfl, hz, q⟩ := h
  obtain ⟨u, rfl, t, rfl⟩ := vals1 r
  have hn := line63
  exact len_str (by omega) ⟨.int z.length, H, I.tok _, ⟨_, rfl⟩, q⟩
theorem CallR.or {f : Value} {r r' : List V → Hp → VK → Prop} (h : CallR X f r) (h' : CallR X f r') : CallR X f (fun xs H Q => r xs H Q ∨ r' xs H Q) := by
  intro pins s σ H xs us Q I rs q
  rcases q with q | q
  · exact h pins s σ H xs us Q I rs q
  · exact h' pins s σ H xs us Q I rs q
theorem call_list_of : CallR X (.type "list") (fun xs H Q => ∃ p ys, xs = [.ref p] ∧ (SqL X.K H p ys ∨ SqT X.K H p ys) ∧ ∀ l, H l = none → Q (.ref l) (upd H l (.lst ys))) := by
  intro pins s σ H xs us Q I r h
  obtain ⟨p, ys, rfl, hq, q⟩ := h
  obtain ⟨u, rfl, rx⟩ := vals1 r
  cases rx
  have fin : ∀ (its : List Value), Vals ys its → ys.length ≤ sizeLine → ∀ (h' : Heap) (c' : Nat), (∀ b o', s.heap.get? b = some o' → h'.get? b = some o') →
      h'.get? s.heap.objs.size = some { cls := .type "list", dict := none, data := .seq its.toArray c', slots := #[] } → EP X pins σ Q (.ref s.heap.objs.size) { s with heap := h' } := fun its r' hz h' c' kp e =>
    ⟨.ref s.heap.objs.size, _, I.laid (t' := s.toks) kp (Nat.le_refl _) (show ObjOk X.prog X.w _ h' _ (.lst ys) from ⟨hz, its, c', r', e⟩), rfl, q _ (I.hok.fresh (Nat.le_refl _))⟩
  rcases hq with hq | hq
  · obtain ⟨its, r', pl, hz⟩ := I.list hq
    have hlen := r'.length
    obtain ⟨o, ho, hc, n, hd⟩ := pl.isList
    exact call_list_seq p (.inl rfl) ho hc hd (fun h' c' kp e => fin its r' hz h' c' kp e) (by simp only [List.size_toArray] <;> omega)
  · obtain ⟨its, r', pl, hz⟩ := I.tuple hq
    have hlen := r'.length
    obtain ⟨o, ho, hc, n, hd⟩ := pl
    exact call_list_seq p (.inr rfl) ho hc hd (fun h' c' kp e => fin its r' hz h' c' kp e) (by simp only [List.size_toArray] <;> omega)
theorem call_tuple_of : CallR X (.type "tuple") (fun xs H Q => ∃ p ys, xs = [.ref p] ∧ ((SqL X.K H p ys ∧ ∀ l, H l = none → Q (.ref l) (upd H l (.tup ys))) ∨ (SqT X.K H p ys ∧ Q (.ref p) H))) := by
  intro pins s σ H xs us Q I r h
  obtain ⟨p, ys, rfl, h⟩ := h
  obtain ⟨u, rfl, rx⟩ := vals1 r
  cases rx
  rcases h with ⟨hq, q⟩ | ⟨hq, q⟩
  · obtain ⟨its, r', pl, hz⟩ := I.list hq
    have hlen := r'.length
    refine call_tuple_list pl.isList (fun h' kp => ?_) (by simp only [List.size_toArray] <;> omega)
    have I1 : Inv X pins σ H { s with heap := h' } := I.kept (t' := s.toks) kp
    have I2 : Inv X pins σ (upd H h'.objs.size (.tup ys)) { s with heap := h'.push { cls := .type "tuple", data := .seq its.toArray } } :=
      I1.laid (t' := s.toks) (fun b o e => Heap.get?_push_of_some _ e) (Nat.le_refl _) (show ObjOk X.prog X.w _ _ _ (.tup ys) from ⟨hz, its, r', IsTup.new _ _⟩)
    exact ⟨.ref h'.objs.size, _, I2, rfl, q _ (I1.hok.fresh (Nat.le_refl _))⟩
  · obtain ⟨its, r', pl, hz⟩ := I.tuple hq
    exact call_tuple_same pl ⟨.ref p, H, I, rfl, q⟩

/-! ### the call of a builtin's method: o.m(..) -/
/-- the value is of that builtin type -/
def tyV (K : PySem.W.Frag) (T : String) (x : V) (H : Hp) : Prop := match x with
  | .str _ => T = "str"
  | .int _ => T = "int"
  | .ref p => (T = "list" ∧ ∃ xs, SqL K H p xs) ∨ (T = "tuple" ∧ ∃ o, K.lookup p = some o ∧ o.cls = .type "tuple" ∧ o.dict = none) ∨
      (T = "dict" ∧ ((∃ kvs, H p = some (.dK kvs)) ∨ ∃ kvs, H p = some (.dT kvs))) ∨ (T = "set" ∧ ∃ S n, H p = some (.set S n))
  | _ => False
theorem tyV_is {pins : List (Addr × Obj)} {σ : St} {H : Hp} {s : Shared} {T : String} {x : V} {v : Value} (I : Inv X pins σ H s) (r : RelV x v) (ty : tyV X.K T x H) :
    s.TypeIs v T ∧ ∀ a, v = .ref a → ∃ ob, s.heap.get? a = some ob ∧ ob.dict = none := by
  cases x with
  | str z =>
    obtain ⟨t, rfl⟩ := r
    cases (show T = "str" from ty)
    exact ⟨typeIs_str s z t, fun _ e => nomatch e⟩
  | int i =>
    obtain ⟨t, rfl⟩ := r
    cases (show T = "int" from ty)
    exact ⟨typeIs_int s i t, fun _ e => nomatch e⟩
  | ref p =>
    cases r
    rcases ty with ⟨rfl, xs, hq⟩ | ⟨rfl, o, hk, hc, hd⟩ | ⟨rfl, hk⟩ | ⟨rfl, S, n, hk⟩
    · obtain ⟨its, _, pl, _⟩ := I.list hq
      refine ⟨pl.isList.typeIs, fun a e => ?_⟩
      cases e
      obtain ⟨o, n, e, c, hd, _⟩ := pl
      exact ⟨o, e, hd⟩
    · refine ⟨⟨o, I.kIn p o hk, hc⟩, fun a e => ?_⟩
      cases e
      exact ⟨o, I.kIn _ o hk, hd⟩
    · have z : ∃ o, s.heap.get? p = some o ∧ o.ExactDict := by
        rcases hk with ⟨kvs, hk⟩ | ⟨kvs, hk⟩
        · obtain ⟨_, _, _, _, o, _, _, e, ex, _⟩ := I.hok p _ hk
          exact ⟨o, e, ex⟩
        · obtain ⟨_, _, _, _, o, _, _, e, ex, _⟩ := I.hok p _ hk
          exact ⟨o, e, ex⟩
      obtain ⟨o, e, ex⟩ := z
      refine ⟨⟨o, e, ex.1⟩, fun a e2 => ?_⟩
      cases e2
      exact ⟨o, e, ex.2.1⟩
    · obtain ⟨o, _, _, _, e, ex, _⟩ := I.hok p _ hk
      refine ⟨⟨o, e, ex.1⟩, fun a e2 => ?_⟩
      cases e2
      exact ⟨o, e, ex.2.1⟩
  | _ => exact False.elim ty
def tBM0 (K : PySem.W.Frag) (T : String) (r : V → List V → Hp → VK → Prop) (to : TE) : TE := fun σ H Q => to σ H fun x H1 => tyV K T x H1 ∧ r x [] H1 Q
def tBM (K : PySem.W.Frag) (T : String) (r : V → List V → Hp → VK → Prop) (to : TE) (t : TA) : TE := fun σ H Q => to σ H fun x H1 => tyV K T x H1 ∧ t σ H1 fun xs H2 => r x xs H2 Q
variable {o e : Expr} {es : List Expr} {to : TE} {t : TA} {name : Str} {apos cpos : Pos} {T id : String} {r : V → List V → Hp → VK → Prop}
theorem pe_bm0 (pa : PlainAttrs T) (slot : Slot T name id) (hty : typeOf (.builtin id) = pure (.type "method_descriptor")) (hm : MtR X id r) (ho : PE X o to)
    (hbase : attributeBase o name X.env (eval o X.env) = eval o X.env := by rfl) (hline : (apos.endLine == cpos.line) = true := by rfl) : PE X (.Call (.Attribute o name apos) [] [] cpos) (tBM0 X.K T r to) := by
  intro pins s σ H Q I h
  refine wpAny_Call_method0_late hbase hline (thn (ho pins s σ H _ I h) fun v s1 ⟨x, H1, I1, r1, ty, q1⟩ => ?_)
  obtain ⟨h1, h2⟩ := tyV_is I1 r1 ty
  exact ⟨T, id, pa, slot, hty, h1, h2, Calls.callWith_builtin rfl (PySem.evalArgs_none (hm pins s1 σ H1 x [] v [] Q I1 r1 .nil q1))⟩
theorem pe_bm (pa : PlainAttrs T) (slot : Slot T name id) (hty : typeOf (.builtin id) = pure (.type "method_descriptor")) (hm : MtR X id r) (ho : PE X o to) (ha : PA X (e :: es) t)
    (hbase : attributeBase o name X.env (eval o X.env) = eval o X.env := by rfl)
    (hfew : ((backTo cpos (starEach (e :: es) X.env)).all (fun x => !x.1) && (backToKw cpos (keywordEach [] X.env)).all (fun x => x.1.isSome)
      && decide ((e :: es).length + ([] : List Keyword).length + (if ([] : List Keyword).isEmpty then 0 else 1) < 30)) = true := by rfl)
    (hline : (apos.endLine == cpos.line) = true := by rfl) (hs : starEach (e :: es) X.env = (false, eval e X.env) :: starEach es X.env := by rfl) (hplain : (backTo cpos (starEach es X.env)).any (·.1) = false := by rfl) :
    PE X (.Call (.Attribute o name apos) (e :: es) [] cpos) (tBM X.K T r to t) := by
  intro pins s σ H Q I h
  refine wpAny_Call_method_late hbase hfew hline rfl (thn (ho pins s σ H _ I h) fun v s1 ⟨x, H1, I1, r1, ty, q1⟩ => ?_)
  obtain ⟨h1, h2⟩ := tyV_is I1 r1 ty
  refine ⟨T, id, pa, slot, hty, h1, h2, ?_⟩
  have hA := ha cpos pins s1 σ H1 _ I1 q1
  rw [hs] at hA ⊢
  refine Calls.callWith_builtin (by show (false || (backTo cpos (starEach es X.env)).any (·.1)) = false; rw [hplain] <;> rfl) (Calls.evalArgs_plain ?_)
  exact thn hA fun us s2 ⟨vs, H2, I2, r2, q2⟩ => hm pins s2 σ H2 x vs v us Q I2 r1 r2 q2
/- xs.append(e), list.index on a module's tuple .. are MtR facts of 06m -/
end
end L2

namespace L2
open PySem PySem.Spec PyProof.Rows

def MtM (X : Cx) (id : String) (r : V → List V → Hp → VK → Prop) : Prop :=
  ∀ (pins : List (Addr × Obj)) (s : Shared) (σ : St) (H : Hp) (x : V) (xs : List V) (v : Value) (us : List Value) (Q : VK), Inv X pins σ H s → RelV x v → Vals xs us → r x xs H Q →
    wpAny (model X.prog X.w) X.A (call (.builtin id) (v :: us)) (EP X pins σ Q) X.xe s

/-! ### lists of values -/
theorem Vals.one : ∀ {x : V} {us : List Value}, Vals [x] us → ∃ u, us = [u] ∧ RelV x u
  | _, _, .cons r .nil => ⟨_, rfl, r⟩
theorem Vals.two : ∀ {x y : V} {us : List Value}, Vals [x, y] us → ∃ u v, us = [u, v] ∧ RelV x u ∧ RelV y v
  | _, _, _, .cons r (.cons q .nil) => ⟨_, _, rfl, r, q⟩
theorem Vals.zero : ∀ {us : List Value}, Vals [] us → us = []
  | _, .nil => rfl
theorem Vals.dropLast {xs : List V} {us : List Value} (h : Vals xs us) : Vals xs.dropLast us.dropLast := by
  induction h with
  | nil => exact .nil
  | cons r t ih =>
    cases t with
    | nil => exact .nil
    | cons q t' => exact .cons r ih
theorem Vals.eraseIdx : ∀ {xs : List V} {us : List Value} (i : Nat), Vals xs us → Vals (xs.eraseIdx i) (us.eraseIdx i)
  | _, _, _, .nil => .nil
  | _, _, 0, .cons _ t => t
  | _, _, i + 1, .cons r t => .cons r (Vals.eraseIdx i t)
theorem Vals.reverse {xs : List V} {us : List Value} (h : Vals xs us) : Vals xs.reverse us.reverse := by
  induction h with
  | nil => exact .nil
  | cons r t ih => rw [List.reverse_cons, List.reverse_cons]; exact Vals.append ih (.cons r .nil)
theorem Vals.rep {xs : List V} {us : List Value} (h : Vals xs us) : ∀ k : Nat, Vals (List.replicate k xs).flatten (List.replicate k us).flatten
  | 0 => .nil
  | k + 1 => by
    rw [List.replicate_succ, List.replicate_succ, List.flatten_cons, List.flatten_cons]
    exact Vals.append h (Vals.rep h k)
theorem erase_last {α : Type} (l : List α) : l.eraseIdx (l.length - 1) = l.dropLast := by
  induction l with
  | nil => rfl
  | cons a r ih =>
    cases r with
    | nil => rfl
    | cons b r =>
      have e : (a :: b :: r).length - 1 = ((b :: r).length - 1) + 1 := by
        have h1 : (a :: b :: r).length = r.length + 2 := rfl
        have h2 : (b :: r).length = r.length + 1 := rfl
        omega
      rw [e, List.eraseIdx_cons_succ, ih]
      all_goals rfl
theorem len_erase {α : Type} : ∀ (l : List α) (i : Nat), (l.eraseIdx i).length ≤ l.length
  | [], _ => Nat.le_refl _
  | _ :: _, 0 => Nat.le_succ _
  | _ :: r, i + 1 => Nat.succ_le_succ (len_erase r i)
theorem foldl_rep (its : List Value) : ∀ (k : Nat) (acc : List Value),
    List.foldl (fun x1 x2 => x1 ++ x2) acc.toArray (List.replicate k its.toArray) = (acc ++ (List.replicate k its).flatten).toArray
  | 0, acc => by simp
  | k + 1, acc => by
    have e : acc.toArray ++ its.toArray = (acc ++ its).toArray := by simp
    have e2 : (acc ++ its) ++ (List.replicate k its).flatten = acc ++ (List.replicate (k + 1) its).flatten := by
      rw [List.replicate_succ, List.flatten_cons, List.append_assoc]
    rw [← e2, ← foldl_rep its k (acc ++ its), ← e, List.replicate_succ, List.foldl_cons]

section
variable {X : Cx} {pins : List (Addr × Obj)} {σ : St} {H : Hp} {s : Shared} {l b : Addr} {xs ys zs : List V}

/-! ### the two steps: a tracked list is rewritten, a new list is laid -/
theorem Inv.lset {its its' : List Value} {n : Nat} {f : Array Value → Array Value} {t' : Nat} (I : Inv X pins σ H s) (hH : H l = some (.lst xs))
    (e : s.heap.get? l = some { cls := .type "list", data := .seq its.toArray n }) (hf : f its.toArray = its'.toArray) (hv : Vals ys its') (hz : ys.length ≤ sizeLine) :
    Inv X pins σ (upd H l (.lst ys)) { s with heap := s.heap.update l (Obj.mapSeq f), toks := t' } := by
  have q := PySem.IsL.update e f
  rw [hf] at q
  refine I.write (x := l) (e := l) (by rw [hH]; exact trivial) (.inl rfl) (fun b' u hb hu => (Heap.get?_update_other s.heap (Obj.mapSeq f) (Ne.symm hb)).trans hu) ⟨_, q⟩ ?_
  exact ⟨hz, its', _, hv, q⟩
theorem Inv.lnew {its : List Value} {t' : Nat} (I : Inv X pins σ H s) (hv : Vals ys its) (hz : ys.length ≤ sizeLine) :
    Inv X pins σ (upd H s.heap.objs.size (.lst ys)) { s with heap := s.heap.push { cls := .type "list", data := .seq its.toArray }, toks := t' } :=
  I.laid (fun _ _ q => Heap.get?_push_of_some _ q) (Nat.le_refl _) ⟨hz, its, 0, hv, Heap.get?_push_size _ rfl⟩
theorem Inv.fresh (I : Inv X pins σ H s) : H s.heap.objs.size = none := I.hok.fresh (Nat.le_refl _)
theorem Inv.lstM (I : Inv X pins σ H s) (hH : H l = some (.lst xs)) : xs.length ≤ sizeLine ∧ ∃ (its : List Value) (n : Nat), Vals xs its ∧ xs.length = its.length ∧ s.heap.get? l = some { cls := .type "list", data := .seq its.toArray n } := by
  obtain ⟨z, its, n, r, e⟩ := I.hok l _ hH
  exact ⟨z, its, n, r, r.length, e⟩

theorem notLongL {n : Nat} (h : n ≤ sizeLine) : Builtin.List.listTooLong n = false := by
  unfold Builtin.List.listTooLong
  exact decide_eq_false (by omega)
end

section
variable {X : Cx}

/-! ### methods -/
def rAppend : V → List V → Hp → VK → Prop := fun x vs H Q => ∃ l xs y, x = .ref l ∧ vs = [y] ∧ H l = some (.lst xs) ∧ xs.length < sizeLine ∧ Q .non (upd H l (.lst (xs ++ [y])))
theorem mt_append : MtM X "list.append" rAppend := by
  intro pins s σ H x vs v us Q I rx rv h
  obtain ⟨l, xs, y, rfl, rfl, hH, hz, q⟩ := h
  cases rx
  obtain ⟨u, rfl, ru⟩ := rv.one
  obtain ⟨z, its, n, r, hl, e⟩ := I.lstM hH
  refine call_meets F.slot_list_append ⟨_, e, rfl⟩ F.entry_list_append (F.args_list_append_2 _ _) (PySem.list_append l its.toArray n u (by rw [List.size_toArray]; omega)) ⟨e, ?_⟩
  refine ⟨.non, _, I.lset (its' := its ++ [u]) hH e (by simp) (r.append (.cons ru .nil)) ?_, rfl, q⟩
  rw [List.length_append, List.length_singleton]
  omega

def rExtend : V → List V → Hp → VK → Prop := fun x vs H Q => ∃ l b xs zs, x = .ref l ∧ vs = [.ref b] ∧ H l = some (.lst xs) ∧ H b = some (.lst zs) ∧ xs.length + zs.length ≤ sizeLine ∧ Q .non (upd H l (.lst (xs ++ zs)))
theorem mt_extend : MtM X "list.extend" rExtend := by
  intro pins s σ H x vs v us Q I rx rv h
  obtain ⟨l, b, xs, zs, rfl, rfl, hH, hB, hz, q⟩ := h
  cases rx
  obtain ⟨u, rfl, ru⟩ := rv.one
  cases ru
  obtain ⟨z, its, n, r, hl, e⟩ := I.lstM hH
  obtain ⟨z2, its2, n2, r2, hl2, e2⟩ := I.lstM hB
  have hsz : its.toArray.size + its2.toArray.size ≤ sizeLine := by rw [List.size_toArray, List.size_toArray]; omega
  have hlong : ¬ (!its.toArray.isEmpty && Builtin.List.listTooLong (its.toArray.size + its2.toArray.size)) = true := by
    rw [notLongL hsz, Bool.and_false]
    exact Bool.false_ne_true
  refine call_meets F.slot_list_extend ⟨_, e, rfl⟩ F.entry_list_extend (F.args_list_extend_2 _ _)
    (AutoSeq1.list_extend_list_list_0 l its.toArray n b its2.toArray n2 hlong (by rw [List.size_toArray]; omega) (by omega)) ⟨e, e2, ?_⟩
  refine ⟨.non, _, I.lset (its' := its ++ its2) hH e (by simp) (r.append r2) ?_, rfl, q⟩
  rw [List.length_append]
  omega

def rPop : V → List V → Hp → VK → Prop := fun x vs H Q => ∃ l xs y, x = .ref l ∧ vs = [] ∧ H l = some (.lst xs) ∧ xs[xs.length - 1]? = some y ∧ Q y (upd H l (.lst xs.dropLast))
theorem mt_pop : MtM X "list.pop" rPop := by
  intro pins s σ H x vs v us Q I rx rv h
  obtain ⟨l, xs, y, rfl, rfl, hH, hy, q⟩ := h
  cases rx
  have hus := rv.zero
  subst hus
  obtain ⟨z, its, n, r, hl, e⟩ := I.lstM hH
  obtain ⟨u, hu, ru⟩ := r.get hy
  have hy' : its.toArray[its.toArray.size - 1]? = some u := by
    show its.toArray[its.length - 1]? = some u
    rw [← Array.getElem?_toList, ← hl]
    exact hu
  refine call_meets F.slot_list_pop ⟨_, e, rfl⟩ F.entry_list_pop (F.args_list_pop_1 _) (MeetsSeq.list_pop_last l its.toArray n u hy' (by rw [List.size_toArray]; omega)) ⟨e, ?_⟩
  refine ⟨y, _, I.lset (its' := its.dropLast) hH e ?_ r.dropLast ?_, ru, q⟩
  · show its.toArray.eraseIdxIfInBounds (its.toArray.size - 1) = its.dropLast.toArray
    rw [List.size_toArray, List.eraseIdxIfInBounds_toArray, erase_last]
  · rw [List.length_dropLast]
    omega

def rPopAt : V → List V → Hp → VK → Prop := fun x vs H Q => ∃ l xs i k y, x = .ref l ∧ vs = [.int i] ∧ H l = some (.lst xs) ∧ -(2 ^ 63) ≤ i ∧ i < 2 ^ 63 ∧ seqIndex? i xs.length = some k ∧ xs[k]? = some y ∧ Q y (upd H l (.lst (xs.eraseIdx k)))
theorem mt_popAt : MtM X "list.pop" rPopAt := by
  intro pins s σ H x vs v us Q I rx rv h
  obtain ⟨l, xs, i, k, y, rfl, rfl, hH, h1, h2, hk, hy, q⟩ := h
  cases rx
  obtain ⟨u, rfl, ru⟩ := rv.one
  obtain ⟨t, rfl⟩ := ru
  obtain ⟨z, its, n, r, hl, e⟩ := I.lstM hH
  obtain ⟨w, hw, rw'⟩ := r.get hy
  refine call_meets F.slot_list_pop ⟨_, e, rfl⟩ F.entry_list_pop (F.args_list_pop_2 _ _)
    (MeetsSeq.list_pop_at l its.toArray n i t k w (fitsIndex_both h1 h2) (by rw [List.size_toArray, ← hl]; exact hk) (by rw [← Array.getElem?_toList]; exact hw) (by rw [List.size_toArray]; omega)) ⟨e, ?_⟩
  refine ⟨y, _, I.lset (its' := its.eraseIdx k) hH e ?_ (r.eraseIdx k) ?_, rw', q⟩
  · show its.toArray.eraseIdxIfInBounds k = (its.eraseIdx k).toArray
    rw [List.eraseIdxIfInBounds_toArray]
  · have := len_erase xs k
    omega

def rReverse : V → List V → Hp → VK → Prop := fun x vs H Q => ∃ l xs, x = .ref l ∧ vs = [] ∧ H l = some (.lst xs) ∧ Q .non (upd H l (.lst xs.reverse))
theorem mt_reverse : MtM X "list.reverse" rReverse := by
  intro pins s σ H x vs v us Q I rx rv h
  obtain ⟨l, xs, rfl, rfl, hH, q⟩ := h
  cases rx
  have hus := rv.zero
  subst hus
  obtain ⟨z, its, n, r, hl, e⟩ := I.lstM hH
  refine call_meets F.slot_list_reverse ⟨_, e, rfl⟩ F.entry_list_reverse (F.args_list_reverse_1 _) (AutoSeq1.list_reverse_list_0 l its.toArray n (by rw [List.size_toArray]; omega)) ⟨e, ?_⟩
  refine ⟨.non, _, I.lset (its' := its.reverse) hH e (by simp) r.reverse ?_, rfl, q⟩
  rw [List.length_reverse]
  omega

def rClear : V → List V → Hp → VK → Prop := fun x vs H Q => ∃ l xs, x = .ref l ∧ vs = [] ∧ H l = some (.lst xs) ∧ Q .non (upd H l (.lst []))
theorem mt_clear : MtM X "list.clear" rClear := by
  intro pins s σ H x vs v us Q I rx rv h
  obtain ⟨l, xs, rfl, rfl, hH, q⟩ := h
  cases rx
  have hus := rv.zero
  subst hus
  obtain ⟨z, its, n, r, hl, e⟩ := I.lstM hH
  refine call_meets F.slot_list_clear ⟨_, e, rfl⟩ F.entry_list_clear (F.args_list_clear_1 _) (AutoSeq1.list_clear_list_0 l its.toArray n (by rw [List.size_toArray]; omega)) ⟨e, ?_⟩
  exact ⟨.non, _, I.lset (its' := []) (ys := []) hH e rfl .nil (Nat.zero_le _), rfl, q⟩

/-! ### list + list, list += list, list * int -/
def rCat : R2 := fun x y H Q => ∃ l b xs zs, x = .ref l ∧ y = .ref b ∧ H l = some (.lst xs) ∧ H b = some (.lst zs) ∧ xs.length + zs.length ≤ sizeLine ∧ ∀ p, H p = none → Q (.ref p) (upd H p (.lst (xs ++ zs)))
theorem op_cat : OpR X (binaryOp .Add) rCat := by
  intro pins s σ H x y v u Q I rx ry h
  obtain ⟨l, b, xs, zs, rfl, rfl, hH, hB, hz, q⟩ := h
  cases rx
  cases ry
  obtain ⟨z, its, n, r, hl, e⟩ := I.lstM hH
  obtain ⟨z2, its2, n2, r2, hl2, e2⟩ := I.lstM hB
  refine PySem.P.add_list e e2 ?_ (by rw [List.size_toArray, List.size_toArray]; omega)
  have ea : its.toArray ++ its2.toArray = (its ++ its2).toArray := by simp
  rw [ea]
  exact ⟨.ref _, _, I.lnew (t' := s.toks) (r.append r2) (by rw [List.length_append]; omega), rfl, q _ I.fresh⟩
/-- a list times an int (a negative one is nothing) -/
def rRep : R2 := fun x y H Q => ∃ l k xs, x = .ref l ∧ y = .int k ∧ H l = some (.lst xs) ∧ -(2 ^ 63) ≤ k ∧ k < 2 ^ 63 ∧ xs.length * k.toNat ≤ sizeLine ∧
  ∀ p, H p = none → Q (.ref p) (upd H p (.lst (List.replicate k.toNat xs).flatten))
theorem len_rep {α : Type} (xs : List α) (k : Nat) : (List.replicate k xs).flatten.length = k * xs.length := by
  induction k with
  | zero => simp
  | succ k ih => rw [List.replicate_succ, List.flatten_cons, List.length_append, ih, Nat.succ_mul, Nat.add_comm]
theorem op_rep : OpR X (binaryOp .Mult) rRep := by
  intro pins s σ H x y v u Q I rx ry h
  obtain ⟨l, k, xs, rfl, rfl, hH, h1, h2, hz, q⟩ := h
  cases rx
  obtain ⟨t, rfl⟩ := ry
  obtain ⟨z, its, n, r, hl, e⟩ := I.lstM hH
  have hlen : its.toArray.size * k.toNat ≤ sizeLine := by rw [List.size_toArray, ← hl]; exact hz
  have hcap : ¬ its.toArray.size * k.toNat > (2 ^ 63 - 1) / 8 := by
    have : (sizeLine : Nat) ≤ (2 ^ 63 - 1) / 8 := by decide
    omega
  have hfit : ¬ (!Builtin.List.listFitsIndex k) = true := by
    rw [fitsIndex_both h1 h2]
    exact Bool.false_ne_true
  have hlong : ¬ Builtin.List.listTooLong (its.toArray.size * k.toNat) = true := by
    rw [notLongL hlen]
    exact Bool.false_ne_true
  have hnew : List.foldl (fun x1 x2 => x1 ++ x2) #[] (List.replicate (if its.toArray.isEmpty = true then 0 else k.toNat) its.toArray) = (List.replicate k.toNat its).flatten.toArray := by
    have f0 : ∀ m : Nat, List.foldl (fun x1 x2 => x1 ++ x2) #[] (List.replicate m its.toArray) = (List.replicate m its).flatten.toArray := fun m => by
      have := foldl_rep its m []
      rw [List.nil_append] at this
      exact this
    rw [f0]
    cases its with
    | nil => simp
    | cons a r' => rw [if_neg (by simp)]
  refine wpAny_binaryOp_repeat_ref (T := "list") (U := "int") (by decide) ⟨_, e, rfl⟩ (fun s' => typeIs_int s' k t) noFill_list_mul F.fills_int_mul F.slot_int_rmul repeat_list F.slot_int_index.lookup
    (call_meets F.slot_int_rmul (typeIs_int s k t) F.entry_int_rmul (F.args_int_rmul_2 _ _) (int___rmul___int_list k t l its.toArray n)
      ⟨e, rfl, ⟨_, e, rfl⟩, call_meets F.slot_list_mul ⟨_, e, rfl⟩ F.entry_list_mul (F.args_list_mul_2 _ _) (AutoListH.list___mul___list_int_3 l its.toArray n k t hfit hcap hlong) ⟨e, ?_⟩⟩)
  rw [hnew]
  exact ⟨.ref _, _, I.lnew (t' := s.toks) (r.rep k.toNat) (by rw [len_rep, Nat.mul_comm]; exact hz), rfl, q _ I.fresh⟩

/-! ### del xs[i] -/
theorem del_list {pins : List (Addr × Obj)} {s : Shared} {σ : St} {H : Hp} {l : Addr} {xs : List V} {i : Int} {t : Tok} {k : Nat} {Q : Unit → Shared → Prop} (I : Inv X pins σ H s) (hH : H l = some (.lst xs))
    (h1 : -(2 ^ 63) ≤ i) (h2 : i < 2 ^ 63) (hk : seqIndex? i xs.length = some k) (h : ∀ s', Inv X pins σ (upd H l (.lst (xs.eraseIdx k))) s' → Q () s') :
    wpAny (model X.prog X.w) X.A (delItem (.ref l) (.int i t)) Q X.xe s := by
  obtain ⟨z, its, n, r, hl, e⟩ := I.lstM hH
  refine PySem.P.delItem_list (k := k) e (fitsIndex_both h1 h2) (by rw [List.size_toArray, ← hl]; exact hk) (h _ ?_) (by rw [List.size_toArray]; omega)
  refine I.lset (its' := its.eraseIdx k) (t' := s.toks) hH e ?_ (r.eraseIdx k) ?_
  · show its.toArray.eraseIdxIfInBounds k = (its.eraseIdx k).toArray
    rw [List.eraseIdxIfInBounds_toArray]
  · have := len_erase xs k
    omega
end

/-! ### xs[a:b] = ys -/
section
variable {prog : Program} {w : World} {A : Around} {E : Value → Shared → Prop} {s : Shared}
theorem splice_eq (its its2 : List Value) (a c : Nat) : its.toArray.extract 0 a ++ its2.toArray ++ its.toArray.extract c its.toArray.size = (its.take a ++ its2 ++ its.drop c).toArray := by
  apply Array.toList_inj.mp
  first
    | (simp
       exact List.take_of_length_le (by simp))
    | simp [List.take_of_length_le]
    | simp
theorem bounds_run {a c n : Nat} (hac : a ≤ c) (hc : c ≤ n) : sliceBounds (some (a : Int)) (some (c : Int)) none n = ((a : Int), (c : Int), 1) := by
  simp only [sliceBounds, Option.getD_none]
  have h1 : ¬ ((a : Int) < 0) := by omega
  have h2 : ¬ ((c : Int) < 0) := by omega
  simp only [h1, h2, if_false, show (1 : Int) > 0 by decide, if_true]
  congr 1
  · omega
  · congr 1; omega
set_option maxRecDepth 100000 in
/-- list.__setitem__ with a slice of step one and another list -/
theorem setItem_slice {l b sl : Addr} {items new : Array Value} {n n2 : Nat} {vl vu : Value} {a c : Nat} {Q : Unit → Shared → Prop}
    (e : s.heap.get? l = some { cls := .type "list", data := .seq items n }) (e2 : s.heap.get? b = some { cls := .type "list", data := .seq new n2 }) (hne : l ≠ b)
    (hs : s.heap.IsSliceOf sl vl vu .none) (pl : IsPart vl (some (a : Int))) (pu : IsPart vu (some (c : Int))) (hac : a ≤ c) (hc : c ≤ items.size)
    (hsz : items.size + new.size ≤ sizeLine) (h : Q () { s with heap := s.heap.update l (Obj.mapSeq fun xs => xs.extract 0 a ++ new ++ xs.extract c xs.size) }) :
    wpAny (model prog w) A (setItem (.ref l) (.ref sl) (.ref b)) Q E s := by
  have hl : s.heap.IsList l items := PySem.IsL.isList e
  have hb : s.heap.IsList b new := PySem.IsL.isList e2
  obtain ⟨os, hos, hcs, hds⟩ := id hs
  have hTs : s.TypeIs (.ref sl) "slice" := ⟨os, hos, hcs⟩
  have hstep : ¬ ((rawPart none == rawInt 0) = true) := Bool.false_ne_true
  have hsame : Builtin.List.listSameRef (.ref l) (.ref b) = false := by
    unfold Builtin.List.listSameRef
    exact beq_eq_false_iff_ne.mpr hne
  have hmax : (max (a : Int) (c : Int)).toNat = c := by omega
  have hz' : ((fun xs : Array Value => xs.extract 0 a ++ new ++ xs.extract c xs.size) items).size ≤ sizeLine + 1 := by
    simp only [Array.size_append, Array.size_extract]
    omega
  unfold setItem
  try with_reducible refine wpAny_holding ?_
  first | refine wpAny_bind (wpAny_pure ?_) | skip
  refine wpAny_bind (wpAny_sequenceKey hl.typeIs (by decide) ?_)
  refine wpAny_bind (wpAny_callSpecial?_slot (name := Str.ofString "__setitem__") hl.typeIs slot_list_setitem
    (wpAny_call_entry slot_list_setitem hl.typeIs entry_list_setitem ?_ (args_list_setitem _ _ _)))
  show wpAny _ _ (Builtin.List.listSubscript? (.ref sl) >>= _) _ _ s
  refine wpAny_bind ?_
  unfold Builtin.List.listSubscript?
  refine wpAny_bind (wpAny_specialOf hTs slice_no_index ?_)
  simp only [Option.isNone_none, if_true]
  refine wpAny_pure ?_
  show wpAny _ _ (typeOf (.ref sl) >>= _) _ _ s
  refine wpAny_bind (wpAny_typeOf hTs ?_)
  first
    | rw [if_neg (by decide)]
    | refine PySem.W.KFB.if_not (by decide) ?_
  rw [listSliceParts_eq]
  refine wpAny_bind (wpAny_bind (wpAny_field hos hds (x := .none) rfl (wpAny_bind (wpAny_listPart .none ?_))))
  rw [if_neg hstep]
  refine wpAny_bind (wpAny_field hos hds (x := vl) rfl (wpAny_bind (wpAny_listPart pl ?_)))
  refine wpAny_bind (wpAny_field hos hds (x := vu) rfl (wpAny_bind (wpAny_listPart pu (wpAny_pure ?_))))
  first
    | simp only [hsame, Bool.false_eq_true, if_false]
    | refine PySem.W.KFB.if_not hsame ?_
    | (dsimp only
       rw [if_neg (by rw [hsame]; exact Bool.false_ne_true)])
  refine wpAny_bind (m := Builtin.List.listAllItems (.ref b) "must assign iterable to extended slice") ?_
  unfold Builtin.List.listAllItems
  refine wpAny_bind (wpAny_typeOf hb.typeIs ?_)
  first
    | refine PySem.W.KFB.if_so (by decide) ?_
    | rw [if_pos (by decide)]
    | simp only [beq_self_eq_true, Bool.true_or, if_true]
  unfold Builtin.List.listItems
  refine wpAny_bind (wpAny_seqItems e2 rfl (wpAny_pure ?_))
  refine wpAny_bind (wpAny_bind (wpAny_seqItems e rfl (wpAny_pure ?_)))
  refine wpAny_bind (wpAny_of_eq ((sliceIndices_raw (some (a : Int)) (some (c : Int)) none items.size (by simp)).trans (congrArg (pure : Int × Int × Int → Sem (Int × Int × Int)) (bounds_run hac hc))) ?_)
  show wpAny _ _ (if ((1 : Int) == 1) = true then _ else _) _ _ s
  rw [if_pos (by decide)]
  refine wpAny_bind (wpAny_rule ?_)
  first
    | simp only [notLongL hsz, Bool.false_eq_true, if_false]
    | refine PySem.W.KFB.if_not (notLongL hsz) ?_
  first | refine wpAny_bind (wpAny_pure ?_) | skip
  show wpAny _ _ (updateSeq l (fun xs => xs.extract 0 ((a : Int)).toNat ++ new ++ xs.extract (max (a : Int) (c : Int)).toNat xs.size) >>= _) _ _ s
  rw [hmax, Int.toNat_natCast]
  refine wpAny_bind (wpAny_updateSeq (hz := Nat.le_trans (Nat.le_add_right _ _) hsz) (_hz' := hz') e rfl ?_)
  refine wpAny_bind (wpAny_letGo ?_)
  first
    | exact wpAny_bind (wpAny_pure (wpAny_pure ⟨.none, rfl, wpAny_pure h⟩))
    | exact wpAny_pure ⟨.none, rfl, wpAny_pure h⟩
end

section
variable {X : Cx}
/-- xs[a:c] = ys of another list, at the value level: sl is the slice object that was just made -/
theorem set_slice {pins : List (Addr × Obj)} {s : Shared} {σ : St} {H : Hp} {l b sl : Addr} {xs ys : List V} {a c : Int} {vl vu : Value} {Q : Unit → Shared → Prop} (I : Inv X pins σ H s)
    (hH : H l = some (.lst xs)) (hB : H b = some (.lst ys)) (hne : l ≠ b) (hs : s.heap.IsSliceOf sl vl vu .none) (ra : RelV (.int a) vl) (rc : RelV (.int c) vu) (h0 : 0 ≤ a) (hac : a ≤ c) (hc : c ≤ xs.length)
    (hz : xs.length + ys.length ≤ sizeLine) (h : ∀ s', Inv X pins σ (upd H l (.lst (xs.take a.toNat ++ ys ++ xs.drop c.toNat))) s' → Q () s') :
    wpAny (model X.prog X.w) X.A (setItem (.ref l) (.ref sl) (.ref b)) Q X.xe s := by
  obtain ⟨ta, rfl⟩ := ra
  obtain ⟨tc, rfl⟩ := rc
  obtain ⟨z, its, n, r, hl, e⟩ := I.lstM hH
  obtain ⟨z2, its2, n2, r2, hl2, e2⟩ := I.lstM hB
  obtain ⟨a', rfl⟩ := Int.eq_ofNat_of_zero_le h0
  obtain ⟨c', rfl⟩ := Int.eq_ofNat_of_zero_le (Int.le_trans h0 hac)
  simp only [Int.toNat_natCast] at h
  refine setItem_slice (a := a') (c := c') e e2 hne hs (.int _ _) (.int _ _) (by omega) (by rw [List.size_toArray]; omega) (by rw [List.size_toArray, List.size_toArray]; omega) (h _ ?_)
  refine I.lset (its' := its.take a' ++ its2 ++ its.drop c') (t' := s.toks) hH e ?_ (Vals.append (Vals.append (r.take _) r2) (r.drop _)) ?_
  · exact splice_eq its its2 a' c'
  · rw [List.length_append, List.length_append, List.length_take, List.length_drop]
    omega
end
end L2

namespace Att
open PySem PySem.W PySem.Calls PyProof.Rows

/-! ### the script -/
theorem ints_of_wellAll {P : Params} {h : Heap} : ∀ (ns : List Int) (vs : List Value), WellAll P h vs (ns.map WData.int) → IntsAre vs ns := by
  intro ns
  induction ns with
  | nil =>
    intro vs w
    rw [List.map_nil] at w
    cases w
    exact .nil
  | cons n ns ih =>
    intro vs w
    rw [List.map_cons] at w
    cases w with
    | cons a b =>
      cases a
      exact .cons _ _ (ih _ b)

theorem script_of {l : OpenLaw} {n : Nat} (hn : l.most = some n) {P : Params} {h : Heap} {args : List WData} {vals : List Value}
    (hpre : l.row.toRowW.claim.pre args = true) (hwl : WellAll P h vals args) :
    ∃ a vs ns, vals = [Value.ref a] ∧ args = [WData.list (ns.map WData.int)] ∧ h.get? a = some { cls := .type "list", data := .seq vs.toArray } ∧ IntsAre vs ns ∧ ns.length ≤ n := by
  have hsh : WShape.hasAll [] args [.list .int] = true := (pre_splitW hpre).1
  have hc : l.pre.holds [] { args := args } = true := (pre_splitW hpre).2
  obtain ⟨d, r, rfl, h1, h2⟩ := hasAllW_cons hsh
  obtain rfl := hasAllW_nil h2
  obtain ⟨xs, rfl, h3⟩ := hasW_list h1
  obtain ⟨ns, rfl⟩ := items_int h3
  have hlen : ns.length ≤ n := by
    unfold OpenLaw.pre at hc
    have h4 : (WTm.not (.lt (.lit (.int (n : Int))) (.len (.arg 0)))).holds [] { args := [.list (ns.map .int)] } = true := by
      have h4 := (holds_andW hc).1
      rw [hn] at h4
      exact h4
    have h5 := condW_of h4 (w_not (w_lt w_lit (w_len_list (w_arg rfl))))
    rw [List.length_map] at h5
    refine Nat.le_of_not_lt fun q => ?_
    have q' : (n : Int) < ((ns.length : Nat) : Int) := by omega
    first
      | (rw [decide_eq_true q'] at h5; exact absurd h5 (by decide))
      | (simp at h5; omega)
  cases hwl with
  | cons w1 w2 =>
    cases w2
    cases w1 with
    | list ho hall => exact ⟨_, _, ns, rfl, rfl, ho, ints_of_wellAll ns _ hall, hlen⟩

theorem post_true (l : OpenLaw) (args : List WData) : l.row.toRowW.claim.post args (.bool true) args = true :=
  postW_of (r := l.row.toRowW) (X := (true == true))
    (show WShape.has [] (.bool true) .bool = true by first | rfl | decide | simp [WShape.has, WShape.arms, WShape.armsAll])
    (show (WTm.eq .res (.lit (.bool true))).value [] { args := args, res := some (.bool true), after := args } = some (.bool (true == true)) from w_eq_bool (w_res rfl) w_lit) rfl

/-! ### the attachment: holds_open's last premise (the goal 'hc' behind k_head) from a wpAny of the law's body -/
theorem attach {l : OpenLaw} {n : Nat} {q : Program} {loose : List Str} {XP : (Str → Option Value) → Heap → Prop} {YP : World → Heap → Prop} {d : DefRec} {x : Str}
    (hn : l.most = some n) (hdf : d.params.defaults = [])
    (hbind : ∀ pm cd doc v : Value, bindArgs (docDef d.name d.params d.body d.scope pm cd doc) ⟨[v], []⟩ = pure [(x, v)])
    (hx : d.scope.names.lookup x = some .local ∨ d.scope.names.lookup x = some .cell)
    (hk : d.scope.kind = .function) (hco : d.scope.isCoroutine = false) (hgen : d.scope.isGenerator = false)
    (body : ∀ (w : World) (s₀ s₁ s : Shared) (mg mb : Str → Option Value) (fa : Addr) (o : Obj) (pm cd doc : Value) (a : Addr) (vs : List Value) (ns : List Int),
      Ground q loose [] XP w s₀ mg mb s₁.heap → YP w s₁.heap →
      s₁.heap.get? fa = some o → o.data = .func (docDef d.name d.params d.body d.scope pm cd doc) → s₁.heap.CodeRec cd d.name → mg d.name = some (.ref fa) →
      s₁.heap.get? a = some { cls := .type "list", data := .seq vs.toArray } → IntsAre vs ns → ns.length ≤ n →
      s.gens = #[] → s.os = s₁.os →
      Fr s₁.heap s₁.heap.objs.size s.heap (bindL (envOfC d.name d.scope s₁.heap.objs.size fa cd).kindOf [(x, .ref a)] fun _ => none) →
      Cl s₁.heap.objs.size (cellsFrom (s₁.heap.objs.size + 1) d.scope.names []) s.heap (bindC (envOfC d.name d.scope s₁.heap.objs.size fa cd).kindOf [(x, .ref a)] fun _ => none) →
      wpAny (model l.prog w) (callerA.deeper (envOfC d.name d.scope s₁.heap.objs.size fa cd)) (execs d.body (envOfC d.name d.scope s₁.heap.objs.size fa cd))
        (fun f s' => f = .ret (.bool true) ∧ OldK s₁.heap s'.heap ∧ s'.os = s₁.os ∧ AllBare s'.gens) (fun _ _ => False) s) :
    WalkO q loose XP YP l.row.toRowW d [] (fun f vs => PySem.call f vs) := by
  intro w s₀ s₁ mg mb G Y fa o pm cd doc dV kV ho hd hcd hD hmg hg args vals as hpre hlay hrd hwl hlo
  obtain rfl : dV = .none := Dflts.none hD hdf
  obtain rfl : kV = .none := Dflts.noKw hD
  obtain ⟨a, vs, ns, rfl, rfl, hobj, hints, hlen⟩ := script_of hn hpre hwl
  refine enter_call ?_
  refine call_cells_ret (o := o) (by rw [depth_caller]; decide) ho (fd_plain hd) G.T.nolimit hcd (hbind pm cd doc (.ref a)) (fun y hy => ?_) (fun h₁ tk F X => ?_) hco hgen hk
  · obtain rfl : y = (x, Value.ref a) := List.mem_singleton.mp hy
    rcases hx with e | e
    · exact .inl e
    · exact .inr ⟨e, cellsFrom_some _ _ _ (.inl e)⟩
  · refine wpAny_mono (body w s₀ s₁ { s₁ with heap := h₁, toks := tk } mg mb fa o pm cd doc a vs ns G Y ho (fd_plain hd) hcd hmg hobj hints hlen hg rfl F X) (fun f s' hq => ?_) (fun _ _ hq => hq)
    obtain ⟨rfl, h2, h3, h4⟩ := hq
    exact ⟨.inl ⟨.bool true, .bool true, [], rfl, fun _ => rfl, .bool true, post_true l _, fun _ => ⟨List.Pairwise.nil, fun _ hm => (nomatch hm)⟩⟩, h2, h3, h4⟩

/-- the same from a codeAny of the CALL (for a layer whose function contracts speak of calls) -/
theorem attach_call {l : OpenLaw} {n : Nat} {q : Program} {loose : List Str} {XP : (Str → Option Value) → Heap → Prop} {YP : World → Heap → Prop} {d : DefRec}
    (hn : l.most = some n) (hdf : d.params.defaults = [])
    (call : ∀ (w : World) (s₀ s₁ : Shared) (mg mb : Str → Option Value) (fa : Addr) (o : Obj) (pm cd doc : Value) (a : Addr) (vs : List Value) (ns : List Int),
      Ground q loose [] XP w s₀ mg mb s₁.heap → YP w s₁.heap →
      s₁.heap.get? fa = some o → o.data = .func (docDef d.name d.params d.body d.scope pm cd doc) → s₁.heap.CodeRec cd d.name → mg d.name = some (.ref fa) →
      s₁.heap.get? a = some { cls := .type "list", data := .seq vs.toArray } → IntsAre vs ns → ns.length ≤ n → s₁.gens = #[] →
      codeAny (model l.prog w) callerA (.call (.ref fa) ⟨[.ref a], []⟩) (fun r s' => r = .ok (.ret (.bool true)) ∧ OldK s₁.heap s'.heap ∧ s'.os = s₁.os ∧ AllBare s'.gens) s₁) :
    WalkO q loose XP YP l.row.toRowW d [] (fun f vs => PySem.call f vs) := by
  intro w s₀ s₁ mg mb G Y fa o pm cd doc dV kV ho hd hcd hD hmg hg args vals as hpre hlay hrd hwl hlo
  obtain rfl : dV = .none := Dflts.none hD hdf
  obtain rfl : kV = .none := Dflts.noKw hD
  obtain ⟨a, vs, ns, rfl, rfl, hobj, hints, hlen⟩ := script_of hn hpre hwl
  refine enter_call (codeAny_mono (call w s₀ s₁ mg mb fa o pm cd doc a vs ns G Y ho (fd_plain hd) hcd hmg hobj hints hlen hg) fun r s' hq => ?_)
  obtain ⟨rfl, h2, h3, h4⟩ := hq
  exact ⟨.inl ⟨.bool true, .bool true, [], rfl, fun _ => rfl, .bool true, post_true l _, fun _ => ⟨List.Pairwise.nil, fun _ hm => (nomatch hm)⟩⟩, h2, h3, h4⟩

/-- the same where the top left finished generators (o_head chose holds_openN): nothing may have changed at all and no generator may be left -/
theorem attachN {l : OpenLaw} {n : Nat} {q : Program} {loose : List Str} {XP : (Str → Option Value) → Heap → Prop} {YP : World → Heap → Prop} {d : DefRec} {x : Str}
    (hn : l.most = some n) (hdf : d.params.defaults = [])
    (hbind : ∀ pm cd doc v : Value, bindArgs (docDef d.name d.params d.body d.scope pm cd doc) ⟨[v], []⟩ = pure [(x, v)])
    (hx : d.scope.names.lookup x = some .local ∨ d.scope.names.lookup x = some .cell)
    (hk : d.scope.kind = .function) (hco : d.scope.isCoroutine = false) (hgen : d.scope.isGenerator = false)
    (body : ∀ (w : World) (s₀ s₁ s : Shared) (mg mb : Str → Option Value) (fa : Addr) (o : Obj) (pm cd doc : Value) (a : Addr) (vs : List Value) (ns : List Int),
      Ground q loose [] XP w s₀ mg mb s₁.heap → YP w s₁.heap →
      s₁.heap.get? fa = some o → o.data = .func (docDef d.name d.params d.body d.scope pm cd doc) → s₁.heap.CodeRec cd d.name → mg d.name = some (.ref fa) →
      s₁.heap.get? a = some { cls := .type "list", data := .seq vs.toArray } → IntsAre vs ns → ns.length ≤ n →
      s.gens = #[] → s.os = s₁.os →
      Fr s₁.heap s₁.heap.objs.size s.heap (bindL (envOfC d.name d.scope s₁.heap.objs.size fa cd).kindOf [(x, .ref a)] fun _ => none) →
      Cl s₁.heap.objs.size (cellsFrom (s₁.heap.objs.size + 1) d.scope.names []) s.heap (bindC (envOfC d.name d.scope s₁.heap.objs.size fa cd).kindOf [(x, .ref a)] fun _ => none) →
      wpAny (model l.prog w) (callerA.deeper (envOfC d.name d.scope s₁.heap.objs.size fa cd)) (execs d.body (envOfC d.name d.scope s₁.heap.objs.size fa cd))
        (fun f s' => f = .ret (.bool true) ∧ (∀ b o, s₁.heap.get? b = some o → s'.heap.get? b = some o) ∧ s'.os = s₁.os ∧ s'.gens = #[]) (fun _ _ => False) s) :
    WalkN q loose XP YP l.row.toRowW d [] (fun f vs => PySem.call f vs) := by
  intro w s₀ s₁ mg mb G Y fa o pm cd doc dV kV ho hd hcd hD hmg hg args vals as hpre hlay hrd hwl hlo
  obtain rfl : dV = .none := Dflts.none hD hdf
  obtain rfl : kV = .none := Dflts.noKw hD
  obtain ⟨a, vs, ns, rfl, rfl, hobj, hints, hlen⟩ := script_of hn hpre hwl
  refine enter_callW ?_
  refine call_cells_ret (o := o) (by rw [depth_caller]; decide) ho (fd_plain hd) G.T.nolimit hcd (hbind pm cd doc (.ref a)) (fun y hy => ?_) (fun h₁ tk F X => ?_) hco hgen hk
  · obtain rfl : y = (x, Value.ref a) := List.mem_singleton.mp hy
    rcases hx with e | e
    · exact .inl e
    · exact .inr ⟨e, cellsFrom_some _ _ _ (.inl e)⟩
  · refine wpAny_mono (body w s₀ s₁ { s₁ with heap := h₁, toks := tk } mg mb fa o pm cd doc a vs ns G Y ho (fd_plain hd) hcd hmg hobj hints hlen hg rfl F X) (fun f s' hq => ?_) (fun _ _ hq => hq)
    obtain ⟨rfl, h2, h3, h4⟩ := hq
    exact ⟨.inl ⟨.bool true, .bool true, [], rfl, fun _ => rfl, .bool true, post_true l _, fun _ => ⟨List.Pairwise.nil, fun _ hm => (nomatch hm)⟩⟩, h2, h3, h4⟩

/-! ### rules over ANY heap (no ledger) from facts about the written part K: the library's own take a ledger (News) for what they write -/
section
variable {prog : Program} {w : World} {A : Around} {E : Value → Shared → Prop} {s : Shared} {K : Frag}

/-- a def of the module, or a method (qual 'C.m'), entered: the frame is the next address; cells behind it -/
theorem call_fn {R : Result → Shared → Prop} {name qual : Str} {params : Arguments} {body : List Stmt} {scope : Scope} {dV kV doc pm cdv ct oc : Value} {an od : Option Addr} {osl : Array (Option Value)} {f : Addr} {args : Args} {binds : List (Str × Value)}
    (X : K.In s.heap) (hlim : s.heap.NoLimit) (ho : K.lookup f = some ⟨oc, od, .func (fnOf name qual params body scope dV kV doc pm an cdv ct), osl⟩) (hcd : codeIn K cdv qual = true) (hroom : A.depth < recursionLimit)
    (hbind : BindsTo s (fnOf name qual params body scope dV kV doc pm an cdv ct) args binds)
    (hkind : (binds.all fun y => scope.names.lookup y.1 == some .local || scope.names.lookup y.1 == some .cell) = true)
    (h : ∀ s₁, InCallC s s.heap.objs.size (bindL (envOfC qual scope s.heap.objs.size f cdv).kindOf binds fun _ => none) (cellsFrom (s.heap.objs.size + 1) scope.names [])
        (bindC (envOfC qual scope s.heap.objs.size f cdv).kindOf binds fun _ => none) s₁ →
      wpAny (model prog w) (A.deeper (envOfC qual scope s.heap.objs.size f cdv)) (execs body (envOfC qual scope s.heap.objs.size f cdv))
        (fun fl s' => R (.ok (.ret (match fl with | .ret v => v | _ => .none))) s')
        (fun e s' => wpAny (model prog w) (A.deeper (envOfC qual scope s.heap.objs.size f cdv)) (leaving (envOfC qual scope s.heap.objs.size f cdv) e) (fun _ s'' => R (.error e) s'') (fun e' s'' => R (.error e') s'') s') s₁)
    (hco : scope.isCoroutine = false) (hgen : scope.isGenerator = false) (hk : scope.kind = .function) : codeAny (model prog w) A (.call (.ref f) args) R s := by
  refine codeAny_call_function hroom (X _ _ ho) rfl hco hgen rfl (codeRec_of X hcd) (hbind _ _ _ _ ?_)
  refine wpAny_newFunctionEnv_cells hk (kindsX hkind _) fun env he s₁ x => ?_
  subst he
  exact ⟨hlim.keeps x.toInCall.keep, codeAny_func (h s₁ x)⟩

/-- C(..): dict at size, instance at size + 1, then __init__ -/
theorem make_obj {R : Result → Shared → Prop} {C fI : Addr} {rest : List Value} {kw : List (Str × Value)}
    (X : K.In s.heap) (hm : makesIn K C = true) (hi : findIn K (.ref C) "__init__" = some (some (.ref fI))) (hf : isFn K (.ref fI) = true)
    (h : codeAny (model prog w) (A.under (.builtin "type.__call__" ⟨.ref C :: rest, kw⟩)) (.call (.ref fI) ⟨.ref (s.heap.objs.size + 1) :: rest, kw⟩) (InitBack (s.heap.objs.size + 1) R)
      { s with heap := (s.heap.push emptyDict).push (instObj C s.heap.objs.size) }) : codeAny (model prog w) A (.call (.ref C) ⟨rest, kw⟩) R s := by
  obtain ⟨hh, g, d, t, os⟩ := s
  exact make_core (makes_of X hm) (looks_findIn X hi) (fun self => bind_fn X self (beq_iff_eq.mp hf)) (.inl rfl) h

/-- x.name where the instance's dict holds the name and the class does not -/
theorem get_field {x C : Addr} {ox : Obj} {es : List DictEntry} {n : Nat} {name : Str} {expr : Bool} {v : Value} {Q : Value → Shared → Prop}
    (X : K.In s.heap) (I : PySem.W.InstAt s.heap x ox C (some (dictOf es n))) (hg : plainGet K C name = true) (hh : hasDictIn K C = true) (ha : findIn K (.ref C) name = some none)
    (hl : getL name es = some (some v)) (hv : handedIn v = true) (h : Q v { s with toks := s.toks + 1 }) : wpAny (model prog w) A (getAttr (.ref x) name expr) Q E s :=
  get_value X I (plainGet_of hg).1 (findObj_own hh ha rfl hl) hv h

/-- x.m(..): the method found in the class -/
theorem get_method {x C f : Addr} {ox : Obj} {es : List DictEntry} {n : Nat} {name : Str} {pl : Sem Bool} {Q : Value × List Value → Shared → Prop}
    (X : K.In s.heap) (I : PySem.W.InstAt s.heap x ox C (some (dictOf es n))) (hg : plainGet K C name = true) (hf : findIn K (.ref C) name = some (some (.ref f))) (ht : isFn K (.ref f) = true)
    (hl : getL name es = some none) (h : Q (.ref f, [.ref x]) s) : wpAny (model prog w) A (getMethod (.ref x) name pl) Q E s :=
  method_fn X I (plainGet_of hg).1 (plainGet_of hg).2 hf (beq_iff_eq.mp ht) (by show (lookIn name (dictOf es n)).map _ = _; rw [lookIn_dict, hl]; rfl) h

/-! the whole heap as the ledger: makes every rule that writes through a ledger a rule over any heap -/
def noObjs (h : Heap) : Heap := { h with objs := #[] }
theorem noObjs_get (h : Heap) (b : Addr) : (noObjs h).get? b = none := by
  cases e : (noObjs h).get? b with
  | none => rfl
  | some o => exact absurd (Heap.lt_size e) (Nat.not_lt_zero _)
def ledger (h : Heap) (L d : Addr) : List (Addr × Obj) := (List.range h.objs.size).filterMap fun a => if a = L ∨ a = d then none else (h.get? a).map fun o => (a, o)
theorem mem_ledger {h : Heap} {L d a : Addr} {o : Obj} : (a, o) ∈ ledger h L d ↔ a ≠ L ∧ a ≠ d ∧ h.get? a = some o := by
  unfold ledger
  rw [List.mem_filterMap]
  constructor
  · rintro ⟨b, _, e⟩
    split at e
    · cases e
    · rename_i hb
      obtain ⟨o', ho, e'⟩ := Option.map_eq_some_iff.mp e
      cases e'
      exact ⟨fun q => hb (.inl q), fun q => hb (.inr q), ho⟩
  · rintro ⟨n1, n2, ho⟩
    refine ⟨a, List.mem_range.mpr (Heap.lt_size ho), ?_⟩
    rw [if_neg (show ¬ (a = L ∨ a = d) from fun q => q.elim n1 n2), ho] <;> rfl
theorem news_ledger {h : Heap} {L d : Addr} {od : Obj} (hne : d ≠ L) (ho : h.get? d = some od) : News (noObjs h) L h ([] ++ (d, od) :: ledger h L d) := by
  rintro ⟨a, o⟩ hp
  rcases List.mem_cons.mp hp with e | hp
  · cases e
    exact ⟨ho, hne, noObjs_get _ _⟩
  · obtain ⟨n1, n2, e⟩ := mem_ledger.mp hp
    exact ⟨e, n1, noObjs_get _ _⟩
theorem fr_all {h : Heap} {L : Addr} {m : Str → Option Value} (n : h.Ns L m) : Fr (noObjs h) L h m :=
  ⟨n, fun b o e => (by rw [noObjs_get] at e; cases e), Nat.zero_le _⟩
/-- Upd of the head entry (for append_K, setItem_K ..) -/
theorem upd_ledger {h : Heap} {L d : Addr} {o o' : Obj} : Upd d o o' ((d, o) :: ledger h L d) ((d, o') :: ledger h L d) :=
  .head fun ⟨_, _⟩ hp => (mem_ledger.mp hp).2.1

/-- x.name = v over any heap: L is any namespace of the heap (the frame's, say): its map stays, its object is not told; all else but the dict stays -/
theorem set_field {x C dx L : Addr} {ox : Obj} {m : Str → Option Value} {es es' : List DictEntry} {n n' : Nat} {name : Str} {v : Value} {Q : Unit → Shared → Prop}
    (X : K.In s.heap) (I : PySem.W.InstAt s.heap x ox C (some (dictOf es n))) (hd : ox.dict = some dx) (hL : s.heap.Ns L m) (hne : dx ≠ L)
    (hs : findIn K (.ref C) "__setattr__" = some (some (.builtin "object.__setattr__"))) (hp : plainOver K C = true) (ht : takerIn K C name = some none) (hh : hasDictIn K C = true) (hl : (getL name es).isSome = true)
    (e : (putL name (PyData.keyHash w.params name) (.str name (s.toks + 1)) v es, putN name es n) = (es', n')) (hz : es'.length ≤ 1000)
    (h : ∀ h' : Heap, h'.Ns L m → h'.get? dx = some (dictOf es' n') → (∀ b o, b ≠ dx → b ≠ L → s.heap.get? b = some o → h'.get? b = some o) → Q () { s with heap := h', toks := s.toks + 2 }) :
    wpAny (model prog w) A (setAttr (.ref x) name v) Q E s := by
  obtain ⟨e1, e2⟩ := Prod.mk.inj e
  have hdx : s.heap.get? dx = some (dictOf es n) := by
    have := I.dict
    rw [hd] at this
    exact this
  refine set_plain X I hs (osa_dict (s := { s with toks := s.toks + 1 }) (h₀ := noObjs s.heap) (L := L) (m := m) (od := dictOf es n) (od' := dictOf es' n') (es := es') (n := n') (pre := []) (post := ledger s.heap L dx)
    (fr_all hL) (news_ledger hne hdx) X I hd hp ht hh hl (fun _ q => nomatch q) (fun ⟨_, _⟩ q => (mem_ledger.mp q).2.1) (by rw [putName_dict, e1, e2]) rfl hz fun h' F' N' => ?_)
  exact h h' F'.ns (N'.get (List.Mem.head _)) fun b o n1 n2 ho => N'.get (List.Mem.tail _ (mem_ledger.mpr ⟨n2, n1, ho⟩))
end
end Att

namespace L2
open PySem PySem.Spec PyProof.Rows

theorem vals_ints : ∀ {vs : List Value} {ns : List Int}, IntsAre vs ns → Vals (ns.map V.int) vs
  | _, _, .nil => .nil
  | _, _, .cons n t h => .cons ⟨t, rfl⟩ (vals_ints h)

/-- nothing is tracked but the script, known to the object (or it is an object of the module) -/
def Only (H : Hp) : Prop := ∀ b, H b = none ∨ ∃ o xs, H b = some (.frz o (.lst xs))

/-- THE HEAD: the law's promise, at the heap behind the top. F, the promise of the law's def, may use that base is part of the heap (so K.In base, base.Ns mainGlobals mg stand in Mod) -/
theorem law_call {P : Program} {w : World} {K : PySem.W.Frag} {mg mb : Str → Option Value} {CX : CXT} {k : Nat} {fa a : Addr} {fd : FuncData} {x : Str} {sp : Sp} {s₁ : Shared} {vs : List Value} {ns : List Int}
    (KX : K.In s₁.heap) (hns : s₁.heap.Ns mainGlobals mg) (hb : s₁.heap.Ns builtinsNs mb) (hbb : ∀ x : Str, x ≠ "__name__" → mb x = bootBuiltins x) (hlim : s₁.heap.NoLimit) (hg : s₁.gens = #[])
    (ha : s₁.heap.get? a = some { cls := .type "list", data := .seq vs.toArray }) (hi : IntsAre vs ns) (hl : ns.length ≤ sizeLine) (hr : Room k callerA)
    (F : ∀ base : Heap, K.In base → base.Ns mainGlobals mg → FnOk P w K mg base CX k fa fd [x] sp) (hbind : ∀ (s : Shared) (u : Value), BindsTo s fd ⟨[u], []⟩ [(x, u)])
    (hsp : ∀ H : Hp, Only H → SqL K H a (ns.map V.int) → sp [.ref a] H (fun v _ => v = .bl true) fun _ _ _ => False)
    (hCX : ∀ H e s', CX [] H s₁ (fun _ _ _ => False) e s' → False) :
    codeAny (model P w) callerA (.call (.ref fa) ⟨[.ref a], []⟩) (fun r s' => r = .ok (.ret (.bool true)) ∧ OldK s₁.heap s'.heap ∧ s'.os = s₁.os ∧ AllBare s'.gens) s₁ := by
  have rv := vals_ints hi
  have lenV := hi.length
  -- from an abstract heap in which nothing but the script may be tracked
  have core : ∀ H : Hp, Only H → SqL K H a (ns.map V.int) → HOk P w H s₁.heap → (∀ b, H b ≠ none → b = a) → (H a ≠ none → K.lookup a = none) →
      codeAny (model P w) callerA (.call (.ref fa) ⟨[.ref a], []⟩) (fun r s' => r = .ok (.ret (.bool true)) ∧ OldK s₁.heap s'.heap ∧ s'.os = s₁.os ∧ AllBare s'.gens) s₁ := by
    intro H hO hS hok hA hK
    have base_of : ∀ {b : Addr} {o : Obj}, s₁.heap.get? b = some o → H b = none → (hidT s₁.heap H).get? b = some o := fun e n => hidT_get e n
    have noA : ∀ {b : Addr} {o : Obj} {es : Array DictEntry} {ep : Nat}, s₁.heap.get? b = some o → o.data = .dict es ep → H b = none := fun {b o es ep} e d => by
      cases q : H b with
      | none => rfl
      | some u =>
        have e' : b = a := hA b (by rw [q]; simp)
        subst e'
        rw [ha] at e; cases e
        have d' : Data.seq vs.toArray _ = Data.dict es ep := d
        cases d'
    have nsK : ∀ {b : Addr} {m : Str → Option Value}, s₁.heap.Ns b m → (hidT s₁.heap H).Ns b m := fun {b m} ⟨o, es, ep, e, d, r⟩ => ⟨o, es, ep, base_of e (noA e d), d, r⟩
    have hKb : K.In (hidT s₁.heap H) := fun b o e => base_of (KX b o e) (by
      cases q : H b with
      | none => rfl
      | some u =>
        have e' : b = a := hA b (by rw [q]; simp)
        subst e'
        rw [hK (by rw [q]; simp)] at e; cases e)
    have hM : Mod K mg (hidT s₁.heap H) := ⟨hKb, nsK hns, ⟨mb, nsK hb, hbb⟩, let ⟨mc, h1, h2⟩ := hlim; ⟨mc, nsK h1, h2⟩⟩
    have e0 : Env0 P w K mg (hidT s₁.heap H) callerA [] s₁ H := ⟨rfl, hM, fun b o e => of_hidT e, Nat.le_of_eq (hidT_size _ _), trivial, fun b hb => absurd (show b ∈ ([] : List Addr) from hb) (by simp), hok, .of_eq hg⟩
    refine codeAny_mono ((F _ hKb (nsK hns)).run callerA [] s₁ H ⟨[.ref a], []⟩ [.ref a] [.ref a] _ _ hr e0 (hbind s₁ (.ref a)) (.cons rfl .nil) (hsp H hO hS)) fun r s' h => ?_
    cases r with
    | error e => exact (hCX H e s' h).elim
    | ok fl =>
      cases fl with
      | next => exact False.elim h
      | brk => exact False.elim h
      | cont => exact False.elim h
      | ret u =>
        obtain ⟨v, H', os, bare, un, hok', r', q⟩ := h
        have q' : v = .bl true := q
        subst q'
        obtain rfl : u = Value.bool true := r'
        refine ⟨rfl, OldK.of_keep fun b o e => ?_, os, bare⟩
        cases q : H b with
        | none => exact un.keep b o e q (by intro z; exact absurd (show b ∈ ([] : List Addr) from z) (by simp)) (by simp)
        | some u =>
          rcases hO b with z | ⟨ob, xs, z⟩
          · rw [q] at z; cases z
          · have z2 := un.frzs b ob _ z
            obtain ⟨e1, _⟩ := hok b _ z
            obtain ⟨e2, _⟩ := hok' b _ z2
            rw [e] at e1; cases e1
            exact e2
  cases hk : K.lookup a with
  | some o =>
    -- the script is one of the module's own objects
    have e := KX a o hk
    rw [ha] at e
    cases e
    refine core (fun _ => none) (fun _ => .inl rfl) (.inr ⟨_, vs.toArray, _, hk, rfl, rfl, rfl, by rw [List.size_toArray, lenV]; exact hl, by simpa using rv⟩) (fun b u z => by have z' : (none : Option HO) = some u := z; cases z') (fun b z => absurd rfl z) fun z => absurd rfl z
  | none =>
    refine core (fun b => if b = a then some (.frz { cls := .type "list", data := .seq vs.toArray } (.lst (ns.map V.int))) else none) (fun b => ?_) (.inl (.inr ⟨{ cls := .type "list", data := .seq vs.toArray }, if_pos rfl⟩)) (fun b u z => ?_) (fun b z => ?_) fun _ => hk
    · by_cases hb : b = a
      · exact .inr ⟨_, _, if_pos hb⟩
      · exact .inl (if_neg hb)
    · by_cases hb : b = a
      · have z' := (if_pos hb).symm.trans z
        cases z'
        subst hb
        exact ⟨ha, by rw [List.length_map]; exact hl, vs, _, rv, ha⟩
      · have z' := (if_neg hb).symm.trans z
        cases z'
    · by_cases hb : b = a
      · exact hb
      · exact absurd (if_neg hb) z
end L2

namespace L2
open PySem PySem.Spec PyProof.Rows

abbrev KOf {K : PySem.W.Frag} {h : Heap} (_ : K.In h) : PySem.W.Frag := K

/-- the goal that k_head leaves (case hc), from the law's promise. F gives the function object fd (K's own) once, then the promise over every base -/
theorem walk_of {l : PySem.W.OpenLaw} {n k : Nat} {q : Program} {loose : List Str} {XP : (Str → Option Value) → Heap → Prop} {YP : World → Heap → Prop} {d : DefRec} {K : Params → PySem.W.Frag} {CX : World → CXT} {sp : World → Sp} {x : Str}
    (hn : l.most = some n) (hn2 : n ≤ sizeLine) (hdf : d.params.defaults = []) (hr : Room k callerA)
    (hY : ∀ (w : World) (h : Heap), YP w h → (K w.params).In h)
    (F : ∀ (w : World) (mg : Str → Option Value) (fa : Addr) (h : Heap), (K w.params).In h → h.Ns mainGlobals mg → mg d.name = some (.ref fa) →
      ∃ fd : FuncData, (∀ (s : Shared) (u : Value), BindsTo s fd ⟨[u], []⟩ [(x, u)]) ∧
        ∀ base : Heap, (K w.params).In base → base.Ns mainGlobals mg → FnOk l.prog w (K w.params) mg base (CX w) k fa fd [x] (sp w))
    (hsp : ∀ (w : World) (H : Hp) (a : Addr) (ns : List Int), ns.length ≤ n → Only H → SqL (K w.params) H a (ns.map V.int) → sp w [.ref a] H (fun v _ => v = .bl true) fun _ _ _ => False)
    (hCX : ∀ (w : World) (H : Hp) (s : Shared) (e : Value) (s' : Shared), CX w [] H s (fun _ _ _ => False) e s' → False) :
    PySem.W.WalkO q loose XP YP l.row.toRowW d [] (fun f vs => PySem.call f vs) := by
  refine Att.attach_call hn hdf fun w s₀ s₁ mg mb fa o pm cd doc a vs ns G Y ho hd hcd hmg hobj hints hlen hg => ?_
  have KX := hY w _ Y
  obtain ⟨fd, hb, hF⟩ := F w mg fa _ KX G.T.g hmg
  exact law_call KX G.T.g G.T.b G.T.builtins G.T.nolimit hg hobj hints (Nat.le_trans hlen hn2) hr hF hb (fun H hO hS => hsp w H a ns hlen hO hS) fun H e s' => hCX w H s₁ e s'
/-- the same where the promise hangs on the written part alone: (sp := My.sp_law), no hole under a binder -/
theorem walk_ofK {l : PySem.W.OpenLaw} {n k : Nat} {q : Program} {loose : List Str} {XP : (Str → Option Value) → Heap → Prop} {YP : World → Heap → Prop} {d : DefRec} {K : Params → PySem.W.Frag} {CX : CXT} {sp : PySem.W.Frag → Sp} {x : Str}
    (hn : l.most = some n) (hn2 : n ≤ sizeLine) (hdf : d.params.defaults = []) (hr : Room k callerA)
    (hY : ∀ (w : World) (h : Heap), YP w h → (K w.params).In h)
    (F : ∀ (w : World) (mg : Str → Option Value) (fa : Addr) (h : Heap), (K w.params).In h → h.Ns mainGlobals mg → mg d.name = some (.ref fa) →
      ∃ fd : FuncData, (∀ (s : Shared) (u : Value), BindsTo s fd ⟨[u], []⟩ [(x, u)]) ∧
        ∀ base : Heap, (K w.params).In base → base.Ns mainGlobals mg → FnOk l.prog w (K w.params) mg base CX k fa fd [x] (sp (K w.params)))
    (hsp : ∀ (K : PySem.W.Frag) (H : Hp) (a : Addr) (ns : List Int), ns.length ≤ n → Only H → SqL K H a (ns.map V.int) → sp K [.ref a] H (fun v _ => v = .bl true) fun _ _ _ => False)
    (hCX : ∀ (H : Hp) (s : Shared) (e : Value) (s' : Shared), CX [] H s (fun _ _ _ => False) e s' → False) :
    PySem.W.WalkO q loose XP YP l.row.toRowW d [] (fun f vs => PySem.call f vs) :=
  walk_of (K := K) (CX := fun _ => CX) (sp := fun w => sp (K w.params)) hn hn2 hdf hr hY F (fun w H a ns h1 h2 h3 => hsp (K w.params) H a ns h1 h2 h3) fun _ H s e s' => hCX H s e s'
end L2

/- THE LAST THEOREM (shape; LID, My.* are yours):
   My.Adr: a structure of the addresses that your layer names (classes, functions); My.Txt K t: a structure (Prop) of the equations over K;
   My.txt_mk : {K} {implicit addresses ..} (e1 : nsIn K mainGlobals "law" = some (some (.ref f))) (e2 : K.lookup f = some ⟨oc, od, .func (fnOf "law" "law" params body scope dV kV doc pm an cdv ct), sl⟩) (e3 : codeIn K cdv "law" = true) .. : ∃ t, My.Txt K t

set_option maxRecDepth 100000 in
set_option maxHeartbeats 0 in
theorem PySem.Challenge.cw_LID_holds : PySem.Challenge.rw_LID.Holds := by
  w_on; o_law; k_head; (case hw => w_witness2)
  k_fill
  refine L2.walk_of (l := PySem.Challenge.rw_LID) (n := 63) (k := 40) (x := "script") (CX := fun w => ..) (sp := fun _ => My.sp_law) rfl (by decide) rfl ⟨rfl, by decide, by decide⟩ (fun w h Y => PySem.W.kIn_of Y) ?F ?S ?C
  case F =>
    intro w mg fa h KX G hmg
    have T : ∃ t, My.Txt (L2.KOf KX) t := by
      dsimp only [L2.KOf]                          -- K must stand as «<heap const> w.params» for k_is
      refine' My.txt_mk ?e1 ?e2 ?e3 ..
      (case e1 => PySem.W.k_is)                    -- in the order: a name -> its address -> its object -> its parts
      (case e2 => PySem.W.k_is)
      ..
    obtain ⟨t, T⟩ := T
    have e0 := hmg.symm.trans (PySem.W.mg_of KX G T.law)
    cases e0                                       -- fa is the law's own address
    exact ⟨_, fun s u => .of_eq rfl, fun base kb nb => My.law_fn T kb nb⟩     -- if «.of_eq rfl» comes too early: refine' ⟨_, ?b, fun base kb nb => My.law_fn T kb nb⟩; exact fun s u => .of_eq rfl
  case S => exact fun w H a ns hl hO hS => ..
  case C => exact ..
(the tactic k_is has no namespace: write k_is) -/

/-! SHORT WORDS over the layer: a def of the text, its body, what a loop and a test want. -/
namespace L2
open PySem PySem.Spec PyProof.Rows

/-! ### the text by places -/
/-- the j-th statement of a class's body -/
def inClass (s : Stmt) (j : Nat) : Stmt := match s with
  | .ClassDef _ _ _ body _ _ _ _ _ _ _ => body.getD j (.Pass ⟨0, 0, 0, 0⟩)
  | _ => .Pass ⟨0, 0, 0, 0⟩
def defArgs (s : Stmt) : Arguments := match s with
  | .FunctionDef _ a _ _ _ _ _ _ _ _ => a
  | _ => { posonlyargs := [], args := [], vararg := none, kwonlyargs := [], kw_defaults := [], kwarg := none, defaults := [] }
def defBody (s : Stmt) : List Stmt := match s with
  | .FunctionDef _ _ b _ _ _ _ _ _ _ => b
  | _ => []
def defScope (s : Stmt) : Scope := match s with
  | .FunctionDef _ _ _ _ _ _ sc _ _ _ => sc
  | _ => { kind := .function, names := [], isGenerator := false, isCoroutine := false }

/-! ### no exception leaves a def -/
abbrev CX0 : CXT := fun _ _ _ _ _ _ => False
abbrev E0 : XK := fun _ _ _ => False
theorem pass0 {X : Cx} : Passes CX0 X E0 := fun _ _ _ _ _ _ _ h => h.elim

/-! ### a def (or method) of the text as it stands behind the top -/
structure Fun (K : PySem.W.Frag) (x qual : Str) (st : Stmt) (f : Addr) (fd : FuncData) : Prop where
  ex : ∃ (oc : Value) (od : Option Addr) (kV doc pm : Value) (an : Option Addr) (cdv ct : Value) (osl : Array (Option Value)),
    fd = PySem.W.fnOf x qual (defArgs st) (defBody st) (defScope st) .none kV doc pm an cdv ct ∧ K.lookup f = some ⟨oc, od, .func fd, osl⟩ ∧ PySem.W.codeIn K cdv qual = true
  kp : PySem.W.keepIn K (.ref f) = true
section
variable {P : Program} {w : World} {K : PySem.W.Frag} {mg : Str → Option Value} {base : Heap}
/-- THE RULE for a def: its body as a term of rules, and the reading of that term -/
theorem Fun.ok {x qual : Str} {st : Stmt} {f : Addr} {fd : FuncData} {N ps : List Str} {k : Nat} {sp : Sp} (F : Fun K x qual st f fd) (S : FnScope N ps (defScope st)) (len : ∀ vs H Q E, sp vs H Q E → vs.length = ps.length)
    (hbody : ∀ (cdv : Value) (A : Around) (outer : List Env) (s : Shared) (H : Hp) (vs : List V) (Q : VK) (E : XK), Room k (A.deeper (envOfC qual (defScope st) s.heap.objs.size f cdv)) → sp vs H Q E →
      ∃ t, PSs (cxOf CX0 P w K mg base N qual (defScope st) f cdv A outer s H E).nox (defBody st) t ∧ t { nx := fun _ H' => Q .non H', rt := Q } (start N vs) H) : FnOk P w K mg base CX0 (k + 1) f fd ps sp := by
  obtain ⟨oc, od, kV, doc, pm, an, cdv, ct, osl, rfl, lk, hcd⟩ := F.ex
  refine fn_of lk hcd S len fun A outer s H vs Q E hr hsp => ?_
  obtain ⟨t, h, q⟩ := hbody cdv A outer s H vs Q E hr hsp
  exact ⟨t, h.nox, q⟩
/-- how its arguments bind (no defaults): h is «fun _ _ _ _ _ _ us hl => match us, hl with | [_, _], _ => rfl», one _ a parameter -/
theorem Fun.binds {x qual : Str} {st : Stmt} {f : Addr} {fd : FuncData} {ps : List Str} (F : Fun K x qual st f fd)
    (h : ∀ (kV doc pm : Value) (an : Option Addr) (cdv ct : Value) (us : List Value), us.length = ps.length → bindArgs (PySem.W.fnOf x qual (defArgs st) (defBody st) (defScope st) .none kV doc pm an cdv ct) ⟨us, []⟩ = pure (ps.zip us)) : Binds K fd ps [] := by
  obtain ⟨oc, od, kV, doc, pm, an, cdv, ct, osl, rfl, lk, hcd⟩ := F.ex
  exact .all (h kV doc pm an cdv ct)
theorem fun_mk {x qual : Str} {st : Stmt} {f : Addr} {oc : Value} {od an : Option Addr} {osl : Array (Option Value)} {kV doc pm cdv ct : Value} (l : K.lookup f = some ⟨oc, od, .func (PySem.W.fnOf x qual (defArgs st) (defBody st) (defScope st) .none kV doc pm an cdv ct), osl⟩)
    (c : PySem.W.codeIn K cdv qual = true) (k : PySem.W.keepIn K (.ref f) = true) : Fun K x qual st f (PySem.W.fnOf x qual (defArgs st) (defBody st) (defScope st) .none kV doc pm an cdv ct) := ⟨⟨oc, od, kV, doc, pm, an, cdv, ct, osl, rfl, l, c⟩, k⟩
end
theorem hu_of {A : Around} {k : Nat} (hr : Room k A) : A.units + 1 < cLine := Nat.lt_of_le_of_lt (Nat.add_le_add_left (by decide : 1 ≤ 64) _) hr.units
theorem small1000 {n : Nat} (h : n ≤ 1000) : n < sizeLine := Nat.lt_of_le_of_lt h (by decide)

/-! ### expressions in short: the name that stands in the i-th slot -/
section
variable {X : Cx}
theorem pv (i : Nat) {x : Str} {pos : Pos} (hN : X.N[i]? = some x := by rfl) (hv : Vis X.env.scope x := by first | exact Or.inl rfl | exact Or.inr (Or.inl rfl) | exact Or.inr (Or.inr rfl)) (hd : (x == ("__debug__" : Str)) = false := by decide)
    (hcd : (x == ("__classdict__" : Str)) = false := by decide) : PE X (.Name x pos) (tVar i) := pe_var hN hv hd hcd
end

/-! ### tests -/
theorem iteF {A B : Prop} (h : B) : if false = true then A else B := by
  rw [if_neg Bool.false_ne_true]
  exact h
theorem iteT {A B : Prop} (h : A) : if true = true then A else B := by
  rw [if_pos rfl]
  exact h
theorem ite2 {c A B : Prop} [Decidable c] (h1 : c → A) (h2 : ¬ c → B) : if c then A else B := by
  by_cases h : c
  · rw [if_pos h]
    exact h1 h
  · rw [if_neg h]
    exact h2 h
theorem iteNS {c A B : Prop} [Decidable c] (hc : c) (h : B) : if (!decide c) = true then A else B := by
  rw [decide_eq_true hc]
  exact iteF h

/-! ### heaps -/
/-- all that was tracked is as it was -/
def Same (H H' : Hp) : Prop := ∀ b o, H b = some o → H' b = some o
theorem Same.refl (H : Hp) : Same H H := fun _ _ h => h
theorem Same.trans {H H1 H2 : Hp} (a : Same H H1) (b : Same H1 H2) : Same H H2 := fun c o h => b c o (a c o h)
theorem Same.free {H H' : Hp} (e : Same H H') {l : Addr} (h : H' l = Option.none) : H l = Option.none := by
  cases q : H l with
  | none => rfl
  | some o =>
    rw [e l o q] at h
    cases h
theorem Same.seq {K : PySem.W.Frag} {H H' : Hp} {a : Addr} {xs : List V} (e : Same H H') (h : SqL K H a xs) : SqL K H' a xs := by
  rcases h with (h | ⟨o, h⟩) | h
  · exact .inl (.inl (e _ _ h))
  · exact .inl (.inr ⟨o, e _ _ h⟩)
  · exact .inr h

end L2

set_option Elab.async false
set_option linter.all false
set_option maxRecDepth 100000
namespace L2
open PySem PySem.Spec PyProof.Rows

/-! ### lists of pairs as tables -/
section
variable {κ : Type} [DecidableEq κ]
def valV (kvs : List (κ × V)) (k : κ) : Option V := (kvs.find? fun kv => decide (kv.1 = k)).map (·.2)
/-- in its place, or at the end -/
def putK (kvs : List (κ × V)) (k : κ) (v : V) : List (κ × V) :=
  if (kvs.any fun kv => decide (kv.1 = k)) = true then kvs.map (fun kv => if kv.1 = k then (kv.1, v) else kv) else kvs ++ [(k, v)]
def dropK (kvs : List (κ × V)) (k : κ) : List (κ × V) := kvs.filter fun kv => decide (kv.1 ≠ k)

theorem valV_nil {k : κ} : valV ([] : List (κ × V)) k = none := rfl
theorem valV_pos {p : κ × V} {r : List (κ × V)} {k : κ} (e : p.1 = k) : valV (p :: r) k = some p.2 := by simp [valV, List.find?_cons, e]
theorem valV_neg {p : κ × V} {r : List (κ × V)} {k : κ} (e : ¬ p.1 = k) : valV (p :: r) k = valV r k := by simp [valV, List.find?_cons, e]
theorem valV_any (k : κ) : ∀ kvs : List (κ × V), (kvs.any fun kv => decide (kv.1 = k)) = (valV kvs k).isSome
  | [] => rfl
  | p :: r => by
    rw [List.any_cons]
    by_cases e : p.1 = k
    · simp only [valV_pos e, decide_eq_true e, Bool.true_or, Option.isSome_some]
    · rw [valV_neg e, decide_eq_false e, Bool.false_or]; exact valV_any k r
theorem valV_map (k j : κ) (y : V) : ∀ kvs : List (κ × V), valV (kvs.map fun kv => if kv.1 = k then (kv.1, y) else kv) j = (valV kvs j).map fun x => if j = k then y else x
  | [] => rfl
  | p :: r => by
    have ih := valV_map k j y r
    rw [List.map_cons]
    by_cases h : p.1 = k
    · rw [if_pos h]
      by_cases e : p.1 = j
      · rw [valV_pos (p := (p.1, y)) e, valV_pos e, Option.map_some, if_pos (e.symm.trans h)]
      · rw [valV_neg (p := (p.1, y)) e, valV_neg e, ih]
    · rw [if_neg h]
      by_cases e : p.1 = j
      · rw [valV_pos (p := p) e, valV_pos e, Option.map_some, if_neg (fun z => h (e.trans z))]
      · rw [valV_neg (p := p) e, valV_neg e, ih]
theorem valV_snoc (k j : κ) (y : V) : ∀ kvs : List (κ × V), valV kvs k = none → valV (kvs ++ [(k, y)]) j = if j = k then some y else valV kvs j
  | [], _ => by
    by_cases e : k = j
    · rw [if_pos e.symm]; exact valV_pos (p := (k, y)) e
    · rw [if_neg (fun z => e z.symm)]; exact valV_neg (p := (k, y)) e
  | p :: r, hn => by
    rw [List.cons_append]
    have hk : ¬ p.1 = k := fun z => by rw [valV_pos z] at hn; cases hn
    rw [valV_neg hk] at hn
    have ih := valV_snoc k j y r hn
    by_cases e : p.1 = j
    · rw [valV_pos e, valV_pos e, if_neg (fun z => hk (e.trans z))]
    · rw [valV_neg e, valV_neg e, ih]
theorem valV_put (kvs : List (κ × V)) (k j : κ) (y : V) : valV (putK kvs k y) j = if j = k then some y else valV kvs j := by
  unfold putK
  by_cases a : (kvs.any fun kv => decide (kv.1 = k)) = true
  · rw [if_pos a, valV_map]
    rw [valV_any] at a
    by_cases e : j = k
    · obtain ⟨x, hx⟩ := Option.isSome_iff_exists.mp a
      rw [if_pos e, e, hx, Option.map_some, if_pos rfl]
    · rw [if_neg e]
      cases valV kvs j with
      | none => rfl
      | some x => rw [Option.map_some, if_neg e]
  · rw [if_neg a]
    refine valV_snoc k j y kvs ?_
    rw [valV_any] at a
    cases q : valV kvs k with
    | none => rfl
    | some x => rw [q] at a; exact (a rfl).elim
theorem length_putK (kvs : List (κ × V)) (k : κ) (v : V) : (putK kvs k v).length ≤ kvs.length + 1 := by
  unfold putK
  split
  · rw [List.length_map]; omega
  · rw [List.length_append, List.length_cons, List.length_nil]; omega
theorem putK_new {kvs : List (κ × V)} {k : κ} (v : V) (h : valV kvs k = none) : putK kvs k v = kvs ++ [(k, v)] := by
  unfold putK
  rw [valV_any, h]
  exact if_neg (by decide)

theorem RelO.isSome_eq {o : Option V} {u : Option Value} (r : RelO o u) : o.isSome = u.isSome := by
  cases o with
  | none => cases u with
    | none => rfl
    | some _ => exact (show False from r).elim
  | some _ => cases u with
    | none => exact (show False from r).elim
    | some _ => rfl
theorem RelO.getD {o : Option V} {u : Option Value} {d : V} {d' : Value} (r : RelO o u) (rd : RelV d d') : RelV (o.getD d) (u.getD d') := by
  cases o with
  | none => cases u with
    | none => exact rd
    | some _ => exact (show False from r).elim
  | some _ => cases u with
    | none => exact (show False from r).elim
    | some _ => exact r

/-- raw tables of the same keys -/
theorem KV.val {kvs : List (κ × V)} {vs : List (κ × Value)} (r : KV kvs vs) (k : κ) : RelO (valV kvs k) (valueAt vs k) := by
  unfold KV at r
  induction r with
  | nil => exact True.intro
  | @cons p q ps qs h t ih =>
    obtain ⟨h1, h2⟩ := h
    by_cases e : p.1 = k
    · have e' : q.1 = k := h1.symm.trans e
      have b : valueAt (q :: qs) k = some q.2 := by simp [valueAt, List.find?_cons, e']
      rw [valV_pos e, b]; exact h2
    · have e' : ¬ q.1 = k := fun z => e (h1.trans z)
      have b : valueAt (q :: qs) k = valueAt qs k := by simp [valueAt, List.find?_cons, e']
      rw [valV_neg e, b]; exact ih
theorem KV.any {kvs : List (κ × V)} {vs : List (κ × Value)} (r : KV kvs vs) (k : κ) : (kvs.any fun kv => decide (kv.1 = k)) = vs.any fun kv => decide (kv.1 = k) := by
  unfold KV at r
  induction r with
  | nil => rfl
  | cons h t ih => rw [List.any_cons, List.any_cons, ih, h.1]
theorem KV.repl {kvs : List (κ × V)} {vs : List (κ × Value)} (r : KV kvs vs) (k : κ) {y : V} {u : Value} (ry : RelV y u) :
    KV (kvs.map fun kv => if kv.1 = k then (kv.1, y) else kv) (vs.map fun kv => if kv.1 = k then (kv.1, u) else kv) := by
  unfold KV at r ⊢
  induction r with
  | nil => exact .nil
  | @cons p q ps qs h t ih =>
    rw [List.map_cons, List.map_cons]
    refine .cons ?_ ih
    obtain ⟨h1, h2⟩ := h
    by_cases e : p.1 = k
    · rw [if_pos e, if_pos (h1.symm.trans e)]; exact ⟨h1, ry⟩
    · rw [if_neg e, if_neg (fun z => e (h1.trans z))]; exact ⟨h1, h2⟩
theorem KV.put {kvs : List (κ × V)} {vs : List (κ × Value)} (r : KV kvs vs) (k : κ) {y : V} {u : Value} (ry : RelV y u) : KV (putK kvs k y) (stored vs k u) := by
  unfold putK stored
  rw [r.any k]
  by_cases e : (vs.any fun kv => decide (kv.1 = k)) = true
  · rw [if_pos e, if_pos e]; exact r.repl k ry
  · rw [if_neg e, if_neg e]; exact Paired.snoc r ⟨rfl, ry⟩
theorem KV.drop {kvs : List (κ × V)} {vs : List (κ × Value)} (r : KV kvs vs) (k : κ) : KV (dropK kvs k) (without vs k) := by
  unfold KV at r ⊢
  unfold dropK without
  induction r with
  | nil => exact .nil
  | @cons p q ps qs h t ih =>
    obtain ⟨h1, h2⟩ := h
    rw [List.filter_cons, List.filter_cons]
    by_cases e : p.1 = k
    · have a : ¬ decide (p.1 ≠ k) = true := by simp [e]
      have b : ¬ decide (q.1 ≠ k) = true := by simp [h1.symm.trans e]
      rw [if_neg a, if_neg b]; exact ih
    · have e' : ¬ q.1 = k := fun z => e (h1.trans z)
      have a : decide (p.1 ≠ k) = true := by simp [e]
      have b : decide (q.1 ≠ k) = true := by simp [e']
      rw [if_pos a, if_pos b]; exact .cons ⟨h1, h2⟩ ih
theorem KV.keys {kvs : List (κ × V)} {vs : List (κ × Value)} (r : KV kvs vs) : kvs.map (·.1) = vs.map (·.1) := by
  unfold KV at r
  induction r with
  | nil => rfl
  | cons h t ih => rw [List.map_cons, List.map_cons, ih, h.1]
theorem KV.length {kvs : List (κ × V)} {vs : List (κ × Value)} (r : KV kvs vs) : kvs.length = vs.length := Paired.length r
theorem dropK_le (kvs : List (κ × V)) (k : κ) : (dropK kvs k).length ≤ kvs.length := List.length_filter_le _ _
end


/-! ### a tracked dict, its keys ints and texts or tuples of these -/
theorem kV_is {P : Program} {w : World} {k : Key} {u : Value} (r : RelV (kV k) u) : (mixKind P w).is k u = true := by
  cases k with
  | inl i => obtain ⟨t, e⟩ := (show ∃ t, u = Value.int i t from r); subst e; exact mixKind_int P w i t
  | inr x => obtain ⟨t, e⟩ := (show ∃ t, u = Value.str x t from r); subst e; exact mixKind_str P w x t
theorem kV_inj {a b : Key} (e : kV a = kV b) : a = b := by
  cases a with
  | inl i => cases b with
    | inl j => have e' : V.int i = V.int j := e; injection e' with e'; rw [e']
    | inr y => exact nomatch (show V.int i = V.str y from e)
  | inr x => cases b with
    | inl j => exact nomatch (show V.str x = V.int j from e)
    | inr y => have e' : V.str x = V.str y := e; injection e' with e'; rw [e']
theorem kVs_inj : ∀ {a b : List Key}, a.map kV = b.map kV → a = b
  | [], [], _ => rfl
  | [], _ :: _, e => by simp at e
  | _ :: _, [], e => by simp at e
  | x :: xs, y :: ys, e => by
    rw [List.map_cons, List.map_cons] at e
    injection e with e1 e2
    rw [kV_inj e1, kVs_inj e2]
theorem items_are {P : Program} {w : World} : ∀ {ks : List Key} {us : List Value}, Vals (ks.map kV) us → ItemsAre (mixKind P w) ks us
  | [], _, r => by rw [List.map_nil] at r; cases r; exact .nil
  | k :: ks, _, r => by
    rw [List.map_cons] at r
    cases r with
    | cons h t => exact .cons (kV_is h) (items_are t)

/-- raw entries of a dict with tuple keys -/
abbrev KT (H : Hp) : List (List Key × V) → List (List Key × Addr × Value) → Prop := Paired fun p q => p.1 = q.1 ∧ H q.2.1 = some (.tup (p.1.map kV)) ∧ RelV p.2 q.2.2
theorem KT.val {H : Hp} {kvs : List (List Key × V)} {xs : List (List Key × Addr × Value)} (r : KT H kvs xs) (k : List Key) : RelO (valV kvs k) ((atKey xs k).map (·.2)) := by
  induction r with
  | nil => exact True.intro
  | @cons p q ps qs h t ih =>
    obtain ⟨h1, _, h2⟩ := h
    by_cases e : p.1 = k
    · have e' : q.1 = k := h1.symm.trans e
      have b : atKey (q :: qs) k = some q.2 := by simp [atKey, List.find?_cons, e']
      rw [valV_pos e, b]; exact h2
    · have e' : ¬ q.1 = k := fun z => e (h1.trans z)
      have b : atKey (q :: qs) k = atKey qs k := by simp [atKey, List.find?_cons, e']
      rw [valV_neg e, b]; exact ih
theorem KT.repl {H : Hp} {kvs : List (List Key × V)} {xs : List (List Key × Addr × Value)} (r : KT H kvs xs) (k : List Key) {y : V} {u : Value} (ry : RelV y u) :
    KT H (kvs.map fun kv => if kv.1 = k then (kv.1, y) else kv) (xs.map (putAt k u)) := by
  induction r with
  | nil => exact .nil
  | @cons p q ps qs h t ih =>
    rw [List.map_cons, List.map_cons]
    refine .cons ?_ ih
    obtain ⟨h1, h2, h3⟩ := h
    unfold putAt
    by_cases e : p.1 = k
    · rw [if_pos e, if_pos (h1.symm.trans e)]; exact ⟨h1, h2, ry⟩
    · rw [if_neg e, if_neg (fun z => e (h1.trans z))]; exact ⟨h1, h2, h3⟩
theorem KT.put {H : Hp} {kvs : List (List Key × V)} {xs : List (List Key × Addr × Value)} (r : KT H kvs xs) (k : List Key) {b : Addr} {y : V} {u : Value} (hb : H b = some (.tup (k.map kV))) (ry : RelV y u) :
    KT H (putK kvs k y) (storedH xs k b u) := by
  have e : (kvs.any fun kv => decide (kv.1 = k)) = (atKey xs k).isSome := by
    rw [valV_any, (r.val k).isSome_eq, Option.isSome_map]
  unfold putK storedH
  rw [e]
  by_cases q : (atKey xs k).isSome = true
  · rw [if_pos q, if_pos q]; exact r.repl k ry
  · rw [if_neg q, if_neg q]; exact Paired.snoc r ⟨rfl, hb, ry⟩
theorem KT.keeps {H H' : Hp} {kvs : List (List Key × V)} {xs : List (List Key × Addr × Value)} (r : KT H kvs xs) (ht : ∀ b ys, H b = some (.tup ys) → H' b = some (.tup ys)) : KT H' kvs xs :=
  Paired.mapP r fun _ _ z => ⟨z.1, ht _ _ z.2.1, z.2.2⟩

section
variable {P : Program} {w : World} {H : Hp} {h : Heap} {a : Addr}
theorem rd_of {u : HO} (ok : HOk P w H h) (e : Rd H a u) : ObjOk P w H h a u := e.ok ok
theorem dk_rd {kvs : List (Key × V)} (ok : HOk P w H h) (e : Rd H a (.dK kvs)) : kvs.length ≤ sizeLine ∧ (a == sysModules) = false ∧ ∃ vs, KV kvs vs ∧ h.DictOf (mixKind P w) a vs :=
  show ObjOk P w H h a (.dK kvs) from rd_of ok e
theorem dk_of {kvs : List (Key × V)} (ok : HOk P w H h) (e : H a = some (.dK kvs)) : kvs.length ≤ sizeLine ∧ (a == sysModules) = false ∧ ∃ vs, KV kvs vs ∧ h.DictOf (mixKind P w) a vs := dk_rd ok (.inl e)
/-- a tracked tuple of ints and texts is a key -/
theorem key_of {ks : List Key} (ok : HOk P w H h) (e : H a = some (.tup (ks.map kV))) : (tupleKind (mixKind P w)).is h ks a := by
  obtain ⟨_, its, r, o, h1, h2, n, h3⟩ := (show ObjOk P w H h a (.tup (ks.map kV)) from ok a _ e)
  exact ⟨o, its.toArray, n, h1, h2, h3, by simpa using items_are r⟩
theorem dt_rd {kvs : List (List Key × V)} (ok : HOk P w H h) (e : Rd H a (.dT kvs)) : kvs.length ≤ sizeLine ∧ (a == sysModules) = false ∧
    ∃ xs, KT H kvs xs ∧ h.DictOfH (tupleKind (mixKind P w)) a xs := by
  obtain ⟨z, y, xs, r, o, es, ep, h1, h2, h3, h4, h5⟩ := (show ObjOk P w H h a (.dT kvs) from rd_of ok e)
  refine ⟨z, y, xs, r, o, es, ep, h1, h2, h3, h4, fun x hx => ?_, h5⟩
  have all : ∀ {l : List (List Key × V)} {m : List (List Key × Addr × Value)}, KT H l m → ∀ x ∈ m, (tupleKind (mixKind P w)).is h x.1 x.2.1 := by
    intro l m q
    induction q with
    | nil => intro x hx; exact nomatch hx
    | @cons p q ps qs hq t ih =>
      intro x hx
      rcases List.mem_cons.mp hx with e | hx
      · subst e
        exact key_of ok (by rw [← hq.1]; exact hq.2.1)
      · exact ih x hx
  exact all r x hx
theorem dt_of {kvs : List (List Key × V)} (ok : HOk P w H h) (e : H a = some (.dT kvs)) : kvs.length ≤ sizeLine ∧ (a == sysModules) = false ∧
    ∃ xs, KT H kvs xs ∧ h.DictOfH (tupleKind (mixKind P w)) a xs := dt_rd ok (.inl e)
end

/-- what the dict at a holds at the key y -/
def DGet (H : Hp) (a : Addr) (y : V) (r : Option V) : Prop :=
  (∃ kvs k, Rd H a (.dK kvs) ∧ y = kV k ∧ r = valV kvs k) ∨ ∃ kvs k b, Rd H a (.dT kvs) ∧ y = .ref b ∧ H b = some (.tup (k.map kV)) ∧ r = valV kvs k
/-- the heap behind a[y] = v -/
def DPut (H : Hp) (a : Addr) (y v : V) (H' : Hp) : Prop :=
  (∃ kvs k, H a = some (.dK kvs) ∧ y = kV k ∧ kvs.length < sizeLine ∧ H' = upd H a (.dK (putK kvs k v))) ∨
  ∃ kvs k b, H a = some (.dT kvs) ∧ y = .ref b ∧ H b = some (.tup (k.map kV)) ∧ kvs.length < sizeLine ∧ H' = upd H a (.dT (putK kvs k v))
theorem DGet.k {H : Hp} {a : Addr} {kvs : List (Key × V)} {k : Key} (e : H a = some (.dK kvs)) : DGet H a (kV k) (valV kvs k) := .inl ⟨kvs, k, .inl e, rfl, rfl⟩
theorem DGet.t {H : Hp} {a b : Addr} {kvs : List (List Key × V)} {k : List Key} (e : H a = some (.dT kvs)) (eb : H b = some (.tup (k.map kV))) : DGet H a (.ref b) (valV kvs k) := .inr ⟨kvs, k, b, .inl e, rfl, eb, rfl⟩
theorem DPut.k {H : Hp} {a : Addr} {kvs : List (Key × V)} {k : Key} {v : V} (e : H a = some (.dK kvs)) (hl : kvs.length < sizeLine) : DPut H a (kV k) v (upd H a (.dK (putK kvs k v))) := .inl ⟨kvs, k, e, rfl, hl, rfl⟩
theorem DPut.t {H : Hp} {a b : Addr} {kvs : List (List Key × V)} {k : List Key} {v : V} (e : H a = some (.dT kvs)) (eb : H b = some (.tup (k.map kV))) (hl : kvs.length < sizeLine) :
    DPut H a (.ref b) v (upd H a (.dT (putK kvs k v))) := .inr ⟨kvs, k, b, e, rfl, eb, hl, rfl⟩


section
variable {X : Cx} {pins : List (Addr × Obj)} {σ : St} {H : Hp} {s : Shared} {a : Addr} {y v : V} {u r : Value} {o : Option V} {A : Around} {E : Value → Shared → Prop}

theorem Inv.big (I : Inv X pins σ H s) : sysModules < s.heap.objs.size := by
  have h : mainGlobals < s.heap.objs.size := (I.mod.glob.keeps I.bk).lt
  exact Nat.lt_trans (by decide) h

/-- d[y], there -/
theorem d_getItem {Q : Value → Shared → Prop} (hu : A.units + 1 < cLine) (I : Inv X pins σ H s) (g : DGet H a y (some v)) (ry : RelV y u) (h : ∀ w' s', Inv X pins σ H s' → RelV v w' → Q w' s') :
    wpAny (model X.prog X.w) A (getItem (.ref a) u) Q E s := by
  rcases g with ⟨kvs, k, e, ey, l⟩ | ⟨kvs, k, b, e, ey, eb, l⟩
  · subst ey
    obtain ⟨z, hd, vs, rel, dd⟩ := dk_rd I.hok e
    obtain ⟨w', hw, rw'⟩ := RelO.some_of (v := v) (o := valueAt vs k) (by rw [l]; exact rel.val k)
    exact wpAny_getItem_of (kV_is ry) dd.mapOf hw (h w' _ (I.tok _) rw')
  · subst ey
    cases (show u = Value.ref b from ry)
    obtain ⟨z, hd, xs, rel, dd⟩ := dt_rd I.hok e
    obtain ⟨w', hw, rw'⟩ := RelO.some_of (v := v) (o := (atKey xs k).map (·.2)) (by rw [l]; exact rel.val k)
    obtain ⟨p, hp, hp2⟩ := Option.map_eq_some_iff.mp hw
    refine wpAny_getItem_heap (tupleKind_room_in1 hu) (key_of I.hok eb) dd hp ?_
    rw [hp2]
    exact h w' _ (I.tok _) rw'
/-- y in d -/
theorem d_in {Q : Value → Shared → Prop} (hu : A.units + 1 < cLine) (I : Inv X pins σ H s) (g : DGet H a y o) (ry : RelV y u) (h : ∀ s', Inv X pins σ H s' → Q (.bool o.isSome) s') :
    wpAny (model X.prog X.w) A (compareOp .In u (.ref a)) Q E s := by
  rcases g with ⟨kvs, k, e, ey, l⟩ | ⟨kvs, k, b, e, ey, eb, l⟩
  · subst ey
    obtain ⟨z, hd, vs, rel, dd⟩ := dk_rd I.hok e
    refine wpAny_in_of (kV_is ry) hd dd.mapOf ?_
    rw [← (rel.val k).isSome_eq, ← l]
    exact h _ (I.tok _)
  · subst ey
    cases (show u = Value.ref b from ry)
    obtain ⟨z, hd, xs, rel, dd⟩ := dt_rd I.hok e
    refine wpAny_in_heap (tupleKind_room_in1 hu) (key_of I.hok eb) hd dd ?_
    have q := (rel.val k).isSome_eq
    rw [Option.isSome_map] at q
    rw [← q, ← l]
    exact h _ (I.tok _)
theorem d_notIn {Q : Value → Shared → Prop} (hu : A.units + 1 < cLine) (I : Inv X pins σ H s) (g : DGet H a y o) (ry : RelV y u) (h : ∀ s', Inv X pins σ H s' → Q (.bool (!o.isSome)) s') :
    wpAny (model X.prog X.w) A (compareOp .NotIn u (.ref a)) Q E s := by
  rcases g with ⟨kvs, k, e, ey, l⟩ | ⟨kvs, k, b, e, ey, eb, l⟩
  · subst ey
    obtain ⟨z, hd, vs, rel, dd⟩ := dk_rd I.hok e
    refine wpAny_notIn_of (kV_is ry) hd dd.mapOf ?_
    rw [← (rel.val k).isSome_eq, ← l]
    exact h _ (I.tok _)
  · subst ey
    cases (show u = Value.ref b from ry)
    obtain ⟨z, hd, xs, rel, dd⟩ := dt_rd I.hok e
    refine wpAny_notIn_heap (tupleKind_room_in1 hu) (key_of I.hok eb) hd dd ?_
    have q := (rel.val k).isSome_eq
    rw [Option.isSome_map] at q
    rw [← q, ← l]
    exact h _ (I.tok _)
/-- a dict's object is replaced -/
theorem d_write {h' : Heap} {t' : Nat} {ob : HO} (I : Inv X pins σ H s) (mu : Mut (H a)) (hs : Heap.SameBut a s.heap h') (he : ∃ q, h'.get? a = some q) (new : ObjOk X.prog X.w (upd H a ob) h' a ob) :
    Inv X pins σ (upd H a ob) { s with heap := h', toks := t' } :=
  I.write (x := a) (e := a) mu (.inl rfl) (fun b q hb z => (hs.2 b hb).trans z) he new
theorem dk_new {P : Program} {w : World} {H' : Hp} {h' : Heap} {kvs : List (Key × V)} {vs : List (Key × Value)} (z : kvs.length ≤ sizeLine) (hd : (a == sysModules) = false) (rel : KV kvs vs) (dd : h'.DictOf (mixKind P w) a vs) :
    ObjOk P w H' h' a (.dK kvs) := ⟨z, hd, vs, rel, dd⟩
/-- d[y] = v -/
theorem d_setItem {H' : Hp} {Q : Unit → Shared → Prop} (hu : A.units + 1 < cLine) (I : Inv X pins σ H s) (g : DPut H a y v H') (ry : RelV y u) (rv : RelV v r) (h : ∀ s', Inv X pins σ H' s' → Q () s') :
    wpAny (model X.prog X.w) A (setItem (.ref a) u r) Q E s := by
  rcases g with ⟨kvs, k, e, ey, l, eH⟩ | ⟨kvs, k, b, e, ey, eb, l, eH⟩
  · subst ey eH
    obtain ⟨z, hd, vs, rel, dd⟩ := dk_of I.hok e
    have hz : vs.length ≤ sizeLine := by rw [← rel.length]; exact z
    have hl : (putK kvs k v).length ≤ sizeLine := by have := length_putK kvs k v; omega
    refine wpAny_setItem_pairs (hsz := hz) (kV_is ry) dd fun h' dd' hs => h _ ?_
    have he : ∃ q, h'.get? a = some q := let ⟨q, _, _, hq, _⟩ := dd'; ⟨q, hq⟩
    exact d_write I (by rw [e]; exact True.intro) hs he (dk_new hl hd (rel.put k rv) dd')
  · subst ey eH
    cases (show u = Value.ref b from ry)
    obtain ⟨z, hd, xs, rel, dd⟩ := dt_of I.hok e
    have hz : xs.length ≤ sizeLine := by rw [← Paired.length rel]; exact z
    have hl : (putK kvs k v).length ≤ sizeLine := by have := length_putK kvs k v; omega
    refine wpAny_setItem_heap (hsz := hz) (tupleKind_room_in1 hu) (key_of I.hok eb) dd fun h' dd' hs => h _ ?_
    obtain ⟨q, es, ep, hq, h2, h3, h4, _, h5⟩ := dd'
    refine d_write I (by rw [e]; exact True.intro) hs ⟨q, hq⟩ ⟨hl, hd, _, (rel.put k eb rv).keeps fun c ys ec => ?_, q, es, ep, hq, h2, h3, h4, h5⟩
    rw [upd_ne (ne_of ec e (fun z => nomatch z))]
    exact ec
end

section
variable {X : Cx} {pins : List (Addr × Obj)} {σ : St} {H : Hp} {s : Shared} {a : Addr} {kvs : List (Key × V)} {k : Key} {u : Value} {A : Around} {E : Value → Shared → Prop}
/-- del d[k] -/
theorem d_delItem {Q : Unit → Shared → Prop} (I : Inv X pins σ H s) (e : H a = some (.dK kvs)) (ry : RelV (kV k) u) (l : (valV kvs k).isSome = true) (h : ∀ s', Inv X pins σ (upd H a (.dK (dropK kvs k))) s' → Q () s') :
    wpAny (model X.prog X.w) A (delItem (.ref a) u) Q E s := by
  obtain ⟨z, hd, vs, rel, dd⟩ := dk_of I.hok e
  refine wpAny_delItem_slot dd.typeIs (by decide) PySem.F.slot_dict_delitem
    (call_meetsIn PySem.F.slot_dict_delitem dd.typeIs PySem.F.entry_dict_delitem (PySem.F.args_dict_delitem_2 _ _) (meets_dict_delitem_pairs (mixKind X.prog X.w) a (kV_is ry)) ⟨vs, dd, by rw [← rel.length]; exact z, by rw [← (rel.val k).isSome_eq]; exact l, fun h' dd' hs => h _ ?_⟩)
  have he : ∃ q, h'.get? a = some q := let ⟨q, _, _, hq, _⟩ := dd'; ⟨q, hq⟩
  exact d_write I (by rw [e]; exact True.intro) hs he (dk_new (Nat.le_trans (dropK_le kvs k) z) hd (rel.drop k) dd')
/-- d.pop(k[, x]), there -/
theorem d_pop {v : V} {more : List Value} {Q : Value → Shared → Prop} (I : Inv X pins σ H s) (e : H a = some (.dK kvs)) (ry : RelV (kV k) u) (l : valV kvs k = some v) (hm : more = [] ∨ ∃ x, more = [x])
    (h : ∀ w' s', Inv X pins σ (upd H a (.dK (dropK kvs k))) s' → RelV v w' → Q w' s') : wpAny (model X.prog X.w) A (call (.builtin "dict.pop") (.ref a :: u :: more)) Q E s := by
  obtain ⟨z, hd, vs, rel, dd⟩ := dk_of I.hok e
  obtain ⟨w', hw, rw'⟩ := RelO.some_of (v := v) (o := valueAt vs k) (by rw [← l]; exact rel.val k)
  have hp : (keyPart u).isSome = true := by
    cases k with
    | inl i => obtain ⟨t, q⟩ := (show ∃ t, u = Value.int i t from ry); subst q; rfl
    | inr x => obtain ⟨t, q⟩ := (show ∃ t, u = Value.str x t from ry); subst q; rfl
  have ha : argsOk "dict.pop" ⟨.ref a :: u :: more, []⟩ := by
    rcases hm with q | ⟨x, q⟩
    · subst q; exact PySem.F.args_dict_pop_2 _ _
    · subst q; exact PySem.F.args_dict_pop_3 _ _ _
  refine call_meetsIn PySem.F.slot_dict_pop dd.typeIs PySem.F.entry_dict_pop ha (meets_dict_pop_there (mixKind X.prog X.w) a (kV_is ry) more hm hp)
    ⟨vs, w', dd, by rw [← rel.length]; exact z, hw, fun h' dd' hs => h w' _ ?_ rw'⟩
  have he : ∃ q, h'.get? a = some q := let ⟨q, _, _, hq, _⟩ := dd'; ⟨q, hq⟩
  exact d_write I (by rw [e]; exact True.intro) hs he (dk_new (Nat.le_trans (dropK_le kvs k) z) hd (rel.drop k) dd')
/-- d.pop(k, x), not there -/
theorem d_popD {r : Value} {Q : Value → Shared → Prop} (I : Inv X pins σ H s) (e : H a = some (.dK kvs)) (ry : RelV (kV k) u) (l : valV kvs k = none) (h : ∀ s', Inv X pins σ H s' → Q r s') :
    wpAny (model X.prog X.w) A (call (.builtin "dict.pop") [.ref a, u, r]) Q E s := by
  obtain ⟨z, hd, vs, rel, dd⟩ := dk_of I.hok e
  have hn : valueAt vs k = none := RelO.none_of (by rw [← l]; exact rel.val k)
  have hp : (keyPart u).isSome = true := by
    cases k with
    | inl i => obtain ⟨t, q⟩ := (show ∃ t, u = Value.int i t from ry); subst q; rfl
    | inr x => obtain ⟨t, q⟩ := (show ∃ t, u = Value.str x t from ry); subst q; rfl
  exact call_meetsIn PySem.F.slot_dict_pop dd.typeIs PySem.F.entry_dict_pop (PySem.F.args_dict_pop_3 _ _ _) (meets_dict_pop_default (mixKind X.prog X.w) a (kV_is ry) hd hp r) ⟨vs, dd, hn, h _ (I.tok _)⟩
/-- d.clear() -/
theorem d_clear {Q : Value → Shared → Prop} (I : Inv X pins σ H s) (e : H a = some (.dK kvs)) (h : ∀ s', Inv X pins σ (upd H a (.dK [])) s' → Q .none s') : wpAny (model X.prog X.w) A (call (.builtin "dict.clear") [.ref a]) Q E s := by
  obtain ⟨z, hd, vs, rel, dd⟩ := dk_of I.hok e
  refine call_meetsIn PySem.F.slot_dict_clear dd.typeIs PySem.F.entry_dict_clear (PySem.F.args_dict_clear_1 _) (meets_dict_clear (mixKind X.prog X.w) a) ⟨vs, dd, by rw [← rel.length]; exact z, fun h' dd' hs => h _ ?_⟩
  have he : ∃ q, h'.get? a = some q := let ⟨q, _, _, hq, _⟩ := dd'; ⟨q, hq⟩
  exact d_write (t' := s.toks) I (by rw [e]; exact True.intro) hs he (dk_new (Nat.zero_le _) hd .nil dd')
/-- len(d) -/
theorem d_len {Q : Value → Shared → Prop} (I : Inv X pins σ H s) (e : Rd H a (.dK kvs)) (h : ∀ t s', Inv X pins σ H s' → Q (.int kvs.length t) s') : wpAny (model X.prog X.w) A (call (.builtin "len") [.ref a]) Q E s := by
  obtain ⟨z, hd, vs, rel, dd⟩ := dk_rd I.hok e
  refine call_len_dict hd dd (by rw [← rel.length]; rw [sizeLine_eq] at z; omega) ?_
  rw [← rel.length]
  exact h _ _ (I.tok _)
/-- if d -/
theorem d_truth {Q : Bool → Shared → Prop} (I : Inv X pins σ H s) (e : Rd H a (.dK kvs)) (h : ∀ s', Inv X pins σ H s' → Q (!kvs.isEmpty) s') : wpAny (model X.prog X.w) A (truthy (.ref a)) Q E s := by
  obtain ⟨z, hd, vs, rel, dd⟩ := dk_rd I.hok e
  refine wpAny_truthy_dict hd dd (by rw [← rel.length]; rw [sizeLine_eq] at z; omega) ?_
  have q : kvs.isEmpty = vs.isEmpty := by cases rel <;> rfl
  rw [← q]
  exact h _ (I.tok _)
end


/-! ### readings and rules -/
/-- the element of a subscription, not a slice -/
def NoSl (i : Expr) : Prop := ∀ ov iv, subscripted i false ov iv = operate [ov, iv] (getItem ov iv)
theorem subD_of {prog : Program} {w : World} {A : Around} {E : Value → Shared → Prop} {s : Shared} {env : Env} {value slice : Expr} {pos : Pos} {T id : String} {Q : Value → Shared → Prop}
    (hl : typeLookup (.type T) "__getitem__" = pure (some (.builtin id))) (hs : NoSl slice)
    (h : wpAny (model prog w) A (eval value env) (fun o s₁ => wpAny (model prog w) A (eval slice env) (fun i s₂ => s₂.TypeIs o T ∧ wpAny (model prog w) A (getItem o i) Q E s₂) E s₁) E s) :
    wpAny (model prog w) A (eval (.Subscript value slice pos) env) Q E s := by
  refine Subscript_ (wpAny_mono h (fun o s₁ h₁ => wpAny_mono h₁ (fun i s₂ h₂ => ?_) fun _ _ x => x) fun _ _ x => x)
  obtain ⟨hT, h₂⟩ := h₂
  unfold subscriptTail
  refine wpAny_bind ?_
  rw [getitemInPython_of_ne hT.not_modules]
  refine wpAny_bind (wpAny_specialOf hT hl ?_)
  have fin : wpAny (model prog w) A (subscripted slice false o i) (fun r s₃ => wpAny (model prog w) A (letTemporaryGo value o r >>= fun _ => pure r) Q E s₃) E s₂ := by
    rw [hs o i]
    exact wpAny_operating (wpAny_mono h₂ (fun r s₃ h₃ => wpAny_bind (wpAny_letTemporaryGo (wpAny_pure h₃))) fun _ _ x => x)
  first
    | exact wpAny_pure (wpAny_bind fin)
    | exact wpAny_bind (wpAny_pure (wpAny_bind fin))
    | exact wpAny_bind fin

theorem dict_typeIs {X : Cx} {pins : List (Addr × Obj)} {σ : St} {H : Hp} {s : Shared} {a : Addr} {y : V} {o : Option V} (I : Inv X pins σ H s) (g : DGet H a y o) : s.TypeIs (.ref a) "dict" := by
  rcases g with ⟨kvs, k, e, _, _⟩ | ⟨kvs, k, b, e, _, _, _⟩
  · obtain ⟨_, _, vs, _, dd⟩ := dk_rd I.hok e
    exact dd.typeIs
  · obtain ⟨_, _, xs, _, dd⟩ := dt_rd I.hok e
    exact dd.typeIs
theorem dict_noDict {X : Cx} {pins : List (Addr × Obj)} {σ : St} {H : Hp} {s : Shared} {a : Addr} {y : V} {o : Option V} (I : Inv X pins σ H s) (g : DGet H a y o) :
    ∀ b, Value.ref a = .ref b → ∃ ob, s.heap.get? b = some ob ∧ ob.dict = none := fun b q => by
  cases q
  rcases g with ⟨kvs, k, e, _, _⟩ | ⟨kvs, k, b, e, _, _, _⟩
  · obtain ⟨_, _, vs, _, ob, _, _, h1, h2, _⟩ := dk_rd I.hok e
    exact ⟨ob, h1, h2.2.1⟩
  · obtain ⟨_, _, xs, _, ob, _, _, h1, h2, _⟩ := dt_rd I.hok e
    exact ⟨ob, h1, h2.2.1⟩

/-- d[y] -/
def tDGet (td ty : TE) : TE := fun σ H Q => td σ H fun x H1 => ty σ H1 fun y H2 => ∃ a v, x = .ref a ∧ DGet H2 a y (some v) ∧ Q v H2
/-- y in d, y not in d -/
def tDIn (ty td : TE) : TE := fun σ H Q => ty σ H fun y H1 => td σ H1 fun x H2 => ∃ a o, x = .ref a ∧ DGet H2 a y o ∧ Q (.bl o.isSome) H2
def tDNotIn (ty td : TE) : TE := fun σ H Q => ty σ H fun y H1 => td σ H1 fun x H2 => ∃ a o, x = .ref a ∧ DGet H2 a y o ∧ Q (.bl (!o.isSome)) H2
/-- d[y] = v -/
def sDPut (td ty tv : TE) : TS := fun D σ H => tv σ H fun v H1 => td σ H1 fun x H2 => ty σ H2 fun y H3 => ∃ a H4, x = .ref a ∧ DPut H3 a y v H4 ∧ D.nx σ H4
/-- d[y] op= v -/
def sDAug (td ty tv : TE) (rd : V → V → Hp → VK → Prop) : TS := fun D σ H => td σ H fun x H1 => ty σ H1 fun y H2 => ∃ a v, x = .ref a ∧ DGet H2 a y (some v) ∧
  tv σ H2 fun y2 H3 => rd v y2 H3 fun z H4 => ∃ H5, DPut H4 a y z H5 ∧ D.nx σ H5
/-- del d[y] -/
def sDDel (td ty : TE) : TS := fun D σ H => td σ H fun x H1 => ty σ H1 fun y H2 => ∃ a kvs k, x = .ref a ∧ H2 a = some (.dK kvs) ∧ y = kV k ∧ (valV kvs k).isSome = true ∧ D.nx σ (upd H2 a (.dK (dropK kvs k)))

section
variable {X : Cx} {o i e value : Expr} {pos pos' tpos : Pos} {td ty tv : TE}
theorem pe_dget (hu : X.A.units + 1 < cLine) (ho : PE X o td) (hi : PE X i ty) (hs : NoSl i) : PE X (.Subscript o i pos) (tDGet td ty) := by
  intro pins s σ H Q I h
  refine subD_of PySem.F.slot_dict_getitem.lookup hs (thn (ho pins s σ H _ I h) fun u s1 ⟨x, H1, I1, rx, q1⟩ => thn (hi pins s1 σ H1 _ I1 q1) fun iv s2 ⟨y, H2, I2, ry, a, v, ex, g, q2⟩ => ?_)
  subst ex
  obtain rfl : u = Value.ref a := rx
  exact ⟨dict_typeIs I2 g, d_getItem hu I2 g ry fun w' s3 I3 rw' => ⟨v, H2, I3, rw', q2⟩⟩
theorem pc_din (hu : X.A.units + 1 < cLine) (hi : PE X i ty) (ho : PE X o td) : PC X .In i o (tDIn ty td) := by
  intro pins s σ H Q I h
  refine thn (hi pins s σ H _ I h) fun iv s1 ⟨y, H1, I1, ry, q1⟩ => thn (ho pins s1 σ H1 _ I1 q1) fun u s2 ⟨x, H2, I2, rx, a, ov, ex, g, q2⟩ => ?_
  subst ex
  obtain rfl : u = Value.ref a := rx
  exact d_in hu I2 g ry fun s3 I3 => ⟨.bl ov.isSome, H2, I3, rfl, q2⟩
theorem pc_dnotin (hu : X.A.units + 1 < cLine) (hi : PE X i ty) (ho : PE X o td) : PC X .NotIn i o (tDNotIn ty td) := by
  intro pins s σ H Q I h
  refine thn (hi pins s σ H _ I h) fun iv s1 ⟨y, H1, I1, ry, q1⟩ => thn (ho pins s1 σ H1 _ I1 q1) fun u s2 ⟨x, H2, I2, rx, a, ov, ex, g, q2⟩ => ?_
  subst ex
  obtain rfl : u = Value.ref a := rx
  exact d_notIn hu I2 g ry fun s3 I3 => ⟨.bl (!ov.isSome), H2, I3, rfl, q2⟩
theorem ps_dput (hu : X.A.units + 1 < cLine) (ho : PE X o td) (hi : PE X i ty) (hv : PE X value tv) (hs : swapsWith value (some (.Subscript o i pos')) pos.line X.env = pure false) :
    PS X (.Assign [.Subscript o i pos'] value pos) (sDPut td ty tv) := by
  intro pins s σ H D I h
  refine wpAny_Assign_Subscript (thn (hv pins s σ H _ I h) fun r s1 ⟨v, H1, I1, rv, q1⟩ => thn (ho pins s1 σ H1 _ I1 q1) fun u s2 ⟨x, H2, I2, rx, q2⟩ => thn (hi pins s2 σ H2 _ I2 q2) fun iv s3 ⟨y, H3, I3, ry, a, H4, ex, g, q3⟩ => ?_) hs
  subst ex
  obtain rfl : u = Value.ref a := rx
  exact d_setItem hu I3 g ry rv fun s4 I4 => ⟨σ, H4, I4, q3⟩
theorem ps_daug {op : Operator} {rd : V → V → Hp → VK → Prop} (hu : X.A.units + 1 < cLine) (ho : PE X o td) (hi : PE X i ty) (hv : PE X value tv) (hop : InOp X op rd)
    (ha : ∀ ov iv new, augStore i ov iv new = (do holding [new, ov, iv] (setItem ov iv new); release [new, ov, iv] []; pure .next)) : PS X (.AugAssign (.Subscript o i tpos) op value pos) (sDAug td ty tv rd) := by
  intro pins s σ H D I h
  refine wpAny_AugAssign_SubscriptAny (thn (ho pins s σ H _ I h) fun u s1 ⟨x, H1, I1, rx, q1⟩ => thn (hi pins s1 σ H1 _ I1 q1) fun iv s2 ⟨y, H2, I2, ry, a, v, ex, g, q2⟩ => ?_) ha
  subst ex
  obtain rfl : u = Value.ref a := rx
  refine d_getItem hu I2 g ry fun w' s3 I3 rw' => thn (hv pins s3 σ H2 _ I3 q2) fun w2 s4 ⟨y2, H3, I4, ry2, q3⟩ => thn (hop pins s4 σ H3 v y2 w' w2 _ I4 rw' ry2 q3) fun w3 s5 ⟨z, H4, I5, rz, H5, g5, q4⟩ => ?_
  exact d_setItem hu I5 g5 ry rz fun s6 I6 => ⟨σ, H5, I6, q4⟩
theorem ps_ddel (ho : PE X o td) (hi : PE X i ty) : PS X (.Delete [.Subscript o i tpos] pos) (sDDel td ty) := by
  intro pins s σ H D I h
  refine wpAny_Delete (wpAny_deleteEach_cons (wpAny_delete_Subscript (thn (ho pins s σ H _ I h) fun u s1 ⟨x, H1, I1, rx, q1⟩ => thn (hi pins s1 σ H1 _ I1 q1) fun iv s2 ⟨y, H2, I2, ry, a, kvs, k, ex, e, ey, l, q2⟩ => ?_)))
  subst ex ey
  obtain rfl : u = Value.ref a := rx
  exact d_delItem I2 e ry l fun s3 I3 => wpAny_deleteEach_nil ⟨σ, _, I3, q2⟩
end


/-! ### displays -/
theorem dk_empty {P : Program} {w : World} {H : Hp} (h : Heap) (hb : sysModules < h.objs.size) : ObjOk P w H (h.push { cls := .type "dict", data := .dict #[] }) h.objs.size (.dK []) :=
  ⟨Nat.zero_le _, beq_eq_false_iff_ne.mpr (Ne.symm (Nat.ne_of_lt hb)), [], .nil, Heap.DictOf.new h⟩
theorem dt_empty {P : Program} {w : World} {H : Hp} (h : Heap) (hb : sysModules < h.objs.size) : ObjOk P w H (h.push { cls := .type "dict", data := .dict #[] }) h.objs.size (.dT []) :=
  ⟨Nat.zero_le _, beq_eq_false_iff_ne.mpr (Ne.symm (Nat.ne_of_lt hb)), [], .nil, _, #[], 0, Heap.get?_push_size _ rfl, ⟨rfl, rfl, rfl⟩, rfl, rfl, List.nodup_nil⟩
/-- {}, to be a dict of the kind that is wanted -/
def tDNewK : TE := fun _ H Q => ∀ p, H p = none → Q (.ref p) (upd H p (.dK []))
def tDNewT : TE := fun _ H Q => ∀ p, H p = none → Q (.ref p) (upd H p (.dT []))
section
variable {X : Cx} {pos : Pos}
theorem pe_dnewK : PE X (.Dict [] [] pos) tDNewK := fun pins s σ H Q I h =>
  wpAny_Dict_empty ⟨.ref s.heap.objs.size, _, I.laid (a := s.heap.objs.size) (o := .dK []) (t' := s.toks) (fun _ _ q => Heap.get?_push_of_some _ q) (Nat.le_refl _) (dk_empty s.heap I.big), rfl, h _ (I.hok.fresh (Nat.le_refl _))⟩
theorem pe_dnewT : PE X (.Dict [] [] pos) tDNewT := fun pins s σ H Q I h =>
  wpAny_Dict_empty ⟨.ref s.heap.objs.size, _, I.laid (a := s.heap.objs.size) (o := .dT []) (t' := s.toks) (fun _ _ q => Heap.get?_push_of_some _ q) (Nat.le_refl _) (dt_empty s.heap I.big), rfl, h _ (I.hok.fresh (Nat.le_refl _))⟩
end

/-- the pairs of a display, from the left -/
def tPairs : List (TE × TE) → St → Hp → (List (V × V) → Hp → Prop) → Prop
  | [], _, H, Q => Q [] H
  | (tk, tv) :: r, σ, H, Q => tk σ H fun x H1 => tv σ H1 fun y H2 => tPairs r σ H2 fun ps H3 => Q ((x, y) :: ps) H3
abbrev VV : List (V × V) → List (Value × Value) → Prop := Paired fun p q => RelV p.1 q.1 ∧ RelV p.2 q.2
def PPs (X : Cx) (pos : Pos) (keys : List (Option Expr)) (values : List Expr) (trs : List (TE × TE)) : Prop :=
  ∀ (pins : List (Addr × Obj)) (s : Shared) (σ : St) (H : Hp) (Q : List (V × V) → Hp → Prop), Inv X pins σ H s → tPairs trs σ H Q →
    wpAny (model X.prog X.w) X.A (evalPairs (pairTrees keys values X.env pos)) (fun vs s' => ∃ ps H', Inv X pins σ H' s' ∧ VV ps vs ∧ Q ps H') X.xe s
theorem pps_nil {X : Cx} {pos : Pos} : PPs X pos [] [] [] := fun pins s σ H Q I h => pairTrees_nil_walk ⟨[], H, I, .nil, h⟩
theorem pps_cons {X : Cx} {pos : Pos} {k v : Expr} {ks : List (Option Expr)} {vs : List Expr} {tk tv : TE} {trs : List (TE × TE)} (hk : PE X k tk) (hv : PE X v tv) (hr : PPs X pos ks vs trs) :
    PPs X pos (some k :: ks) (v :: vs) ((tk, tv) :: trs) := fun pins s σ H Q I h =>
  pairTrees_cons_walk (thn (hk pins s σ H _ I h) fun u s1 ⟨x, H1, I1, rx, q1⟩ => thn (hv pins s1 σ H1 _ I1 q1) fun w2 s2 ⟨y, H2, I2, ry, q2⟩ =>
    thn (hr pins s2 σ H2 _ I2 q2) fun ws s3 ⟨ps, H3, I3, rel, q3⟩ => ⟨(x, y) :: ps, H3, I3, .cons ⟨rx, ry⟩ rel, q3⟩)

def mergeK (kvs more : List (Key × V)) : List (Key × V) := more.foldl (fun acc kv => putK acc kv.1 kv.2) kvs
theorem KV.merge : ∀ {more : List (Key × V)} {rs : List (Key × Value)} {kvs : List (Key × V)} {vs : List (Key × Value)}, KV more rs → KV kvs vs → KV (mergeK kvs more) (merged vs rs) := by
  intro more rs kvs vs r
  unfold KV at r
  induction r generalizing kvs vs with
  | nil => intro q; exact q
  | @cons p q ps qs h t ih =>
    intro r0
    have e : KV (putK kvs p.1 p.2) (stored vs q.1 q.2) := by
      have := r0.put p.1 h.2
      rw [← h.1]; exact this
    exact ih e
theorem length_mergeK : ∀ (more kvs : List (Key × V)), (mergeK kvs more).length ≤ kvs.length + more.length
  | [], kvs => by show kvs.length ≤ kvs.length + 0; omega
  | p :: r, kvs => by
    have h1 := length_mergeK r (putK kvs p.1 p.2)
    have h2 := length_putK kvs p.1 p.2
    show (mergeK (putK kvs p.1 p.2) r).length ≤ _
    rw [List.length_cons]; omega
theorem carries_of {P : Program} {w : World} : ∀ {kvs : List (Key × V)} {ws : List (Value × Value)}, VV (kvs.map fun kv => (kV kv.1, kv.2)) ws → ∃ rs, Carries (mixKind P w) ws rs ∧ KV kvs rs
  | [], _, r => by rw [List.map_nil] at r; cases r; exact ⟨[], True.intro, .nil⟩
  | p :: kvs, _, r => by
    rw [List.map_cons] at r
    cases r with
    | @cons a b as bs h t =>
      obtain ⟨rs, c, q⟩ := carries_of (P := P) (w := w) t
      obtain ⟨b1, b2⟩ := b
      exact ⟨(p.1, b2) :: rs, ⟨kV_is h.1, rfl, c⟩, .cons ⟨rfl, h.2⟩ q⟩
/-- {k: v, ..} with keys ints and texts; the new dict stands empty while the pairs are made -/
def tDisp (trs : List (TE × TE)) : TE := fun σ H Q => ∀ p, H p = none → tPairs trs σ (upd H p (.dK [])) fun ps H2 => H2 p = some (.dK []) ∧ ∃ kvs : List (Key × V), ps = kvs.map (fun kv => (kV kv.1, kv.2)) ∧ kvs.length ≤ 15 ∧ Q (.ref p) (upd H2 p (.dK (mergeK [] kvs)))
theorem pe_disp {X : Cx} {pos : Pos} {keys : List (Option Expr)} {values : List Expr} {trs : List (TE × TE)} (h : PPs X pos keys values trs) (hall : keys.all (·.isSome) = true) (hl : keys.length = values.length) (h0 : keys ≠ [])
    (h15 : keys.length ≤ 15) : PE X (.Dict keys values pos) (tDisp trs) := by
  intro pins s σ H Q I q
  have hn := I.hok.fresh (Nat.le_refl s.heap.objs.size)
  have I1 := I.laid (a := s.heap.objs.size) (o := .dK []) (h' := s.heap.push { cls := .type "dict", data := .dict #[] }) (t' := s.toks) (fun _ _ q => Heap.get?_push_of_some _ q) (Nat.le_refl _) (dk_empty s.heap I.big)
  refine wpAny_Dict_walk (knd := mixKind X.prog X.w) hall hl h0 h15 (thn (h pins _ σ _ _ I1 (q _ hn)) fun ws s2 ⟨ps, H2, I2, rel, e, kvs, ep, lk, q2⟩ => ?_)
  subst ep
  obtain ⟨rs, c, rk⟩ := carries_of (P := X.prog) (w := X.w) rel
  obtain ⟨z, hd, vs0, r0, dd⟩ := dk_of I2.hok e
  cases r0
  refine ⟨rs, c, dd, fun h' dd' hs => ⟨.ref s.heap.objs.size, _, ?_, rfl, q2⟩⟩
  have hz : (mergeK [] kvs).length ≤ sizeLine := by
    have h1 := length_mergeK kvs []
    rw [List.length_nil] at h1
    rw [sizeLine_eq]; omega
  have he : ∃ q, h'.get? s.heap.objs.size = some q := let ⟨q, _, _, hq, _⟩ := dd'; ⟨q, hq⟩
  exact d_write I2 (by rw [e]; exact True.intro) hs he (dk_new hz hd (rk.merge .nil) dd')


/-! ### methods -/
/-- a method call o.m(e) of a built-in, with one argument: what must be seen of the text -/
structure M1 (X : Cx) (o : Expr) (m : Str) (apos : Pos) (e : Expr) (cpos : Pos) : Prop where
  base : attributeBase o m X.env (eval o X.env) = eval o X.env
  few : ((backTo cpos (starEach [e] X.env)).all (fun x => !x.1) && (backToKw cpos (keywordEach [] X.env)).all (fun x => x.1.isSome)
    && decide (([e] : List Expr).length + ([] : List Keyword).length + (if ([] : List Keyword).isEmpty then 0 else 1) < 30)) = true
  line : (apos.endLine == cpos.line) = true
  trees : backTo cpos (starEach [e] X.env) = [(false, eval e X.env)]
structure M2 (X : Cx) (o : Expr) (m : Str) (apos : Pos) (e f : Expr) (cpos : Pos) : Prop where
  base : attributeBase o m X.env (eval o X.env) = eval o X.env
  few : ((backTo cpos (starEach [e, f] X.env)).all (fun x => !x.1) && (backToKw cpos (keywordEach [] X.env)).all (fun x => x.1.isSome)
    && decide (([e, f] : List Expr).length + ([] : List Keyword).length + (if ([] : List Keyword).isEmpty then 0 else 1) < 30)) = true
  line : (apos.endLine == cpos.line) = true
  trees : backTo cpos (starEach [e, f] X.env) = [(false, eval e X.env), (false, eval f X.env)]

/-- a is a dict, whatever its keys -/
def IsD (H : Hp) (a : Addr) : Prop := (∃ kvs, Rd H a (.dK kvs)) ∨ ∃ kvs, Rd H a (.dT kvs)
theorem isD_at {X : Cx} {pins : List (Addr × Obj)} {σ : St} {H : Hp} {s : Shared} {a : Addr} (I : Inv X pins σ H s) (d : IsD H a) :
    s.TypeIs (.ref a) "dict" ∧ (∀ b, Value.ref a = .ref b → ∃ ob, s.heap.get? b = some ob ∧ ob.dict = none) ∧ (a == sysModules) = false := by
  rcases d with ⟨kvs, e⟩ | ⟨kvs, e⟩
  · obtain ⟨_, hd, vs, _, dd⟩ := dk_rd I.hok e
    refine ⟨dd.typeIs, fun b q => ?_, hd⟩
    cases q
    obtain ⟨ob, _, _, h1, h2, _⟩ := dd
    exact ⟨ob, h1, h2.2.1⟩
  · obtain ⟨_, hd, xs, _, dd⟩ := dt_rd I.hok e
    refine ⟨dd.typeIs, fun b q => ?_, hd⟩
    cases q
    obtain ⟨ob, _, _, h1, h2, _⟩ := dd
    exact ⟨ob, h1, h2.2.1⟩

section
variable {X : Cx} {pins : List (Addr × Obj)} {σ : St} {H : Hp} {s : Shared} {a : Addr} {y d : V} {u r : Value} {o : Option V} {A : Around} {E : Value → Shared → Prop}
/-- d.get(y) -/
theorem d_get1 {Q : Value → Shared → Prop} (hu : A.units + 1 < cLine) (I : Inv X pins σ H s) (g : DGet H a y o) (ry : RelV y u) (h : ∀ w' s', Inv X pins σ H s' → RelV (o.getD .non) w' → Q w' s') :
    wpAny (model X.prog X.w) A (call (.builtin "dict.get") [.ref a, u]) Q E s := by
  rcases g with ⟨kvs, k, e, ey, l⟩ | ⟨kvs, k, b, e, ey, eb, l⟩
  · subst ey
    obtain ⟨z, hd, vs, rel, dd⟩ := dk_rd I.hok e
    refine call_meetsIn PySem.F.slot_dict_get dd.typeIs PySem.F.entry_dict_get (PySem.F.args_dict_get_2 _ _) (meets_dict_get (mixKind X.prog X.w) a (kV_is ry) hd) ⟨_, dd.mapOf, h _ _ (I.tok _) ?_⟩
    rw [l]
    exact (rel.val k).getD rfl
  · subst ey
    cases (show u = Value.ref b from ry)
    obtain ⟨z, hd, xs, rel, dd⟩ := dt_rd I.hok e
    refine call_meetsIn PySem.F.slot_dict_get dd.typeIs PySem.F.entry_dict_get (PySem.F.args_dict_get_2 _ _) (meetsH_dict_get (tupleKind (mixKind X.prog X.w)) a b hd) ⟨tupleKind_room_in1 hu, k, xs, key_of I.hok eb, dd, h _ _ (I.tok _) ?_⟩
    rw [l]
    exact (rel.val k).getD rfl
/-- d.get(y, x) -/
theorem d_get2 {Q : Value → Shared → Prop} (hu : A.units + 1 < cLine) (I : Inv X pins σ H s) (g : DGet H a y o) (ry : RelV y u) (rd : RelV d r) (h : ∀ w' s', Inv X pins σ H s' → RelV (o.getD d) w' → Q w' s') :
    wpAny (model X.prog X.w) A (call (.builtin "dict.get") [.ref a, u, r]) Q E s := by
  rcases g with ⟨kvs, k, e, ey, l⟩ | ⟨kvs, k, b, e, ey, eb, l⟩
  · subst ey
    obtain ⟨z, hd, vs, rel, dd⟩ := dk_rd I.hok e
    refine call_meetsIn PySem.F.slot_dict_get dd.typeIs PySem.F.entry_dict_get (PySem.F.args_dict_get_3 _ _ _) (meets_dict_get_default (mixKind X.prog X.w) a (kV_is ry) hd r) ⟨_, dd.mapOf, h _ _ (I.tok _) ?_⟩
    rw [l]
    exact (rel.val k).getD rd
  · subst ey
    cases (show u = Value.ref b from ry)
    obtain ⟨z, hd, xs, rel, dd⟩ := dt_rd I.hok e
    refine call_meetsIn PySem.F.slot_dict_get dd.typeIs PySem.F.entry_dict_get (PySem.F.args_dict_get_3 _ _ _) (meetsH_dict_get_default (tupleKind (mixKind X.prog X.w)) a b hd r) ⟨tupleKind_room_in1 hu, k, xs, key_of I.hok eb, dd, h _ _ (I.tok _) ?_⟩
    rw [l]
    exact (rel.val k).getD rd
end

def tDGet1 (td ty : TE) : TE := fun σ H Q => td σ H fun x H1 => ∃ a, x = .ref a ∧ IsD H1 a ∧ ty σ H1 fun y H2 => ∃ o, DGet H2 a y o ∧ Q (o.getD .non) H2
def tDGet2 (td ty tx : TE) : TE := fun σ H Q => td σ H fun x H1 => ∃ a, x = .ref a ∧ IsD H1 a ∧ ty σ H1 fun y H2 => tx σ H2 fun z H3 => ∃ o, DGet H3 a y o ∧ Q (o.getD z) H3
/-- d.pop(k): there; d.pop(k, x): there or not -/
def tDPop1 (td ty : TE) : TE := fun σ H Q => td σ H fun x H1 => ∃ a, x = .ref a ∧ IsD H1 a ∧ ty σ H1 fun y H2 => ∃ kvs k v, H2 a = some (.dK kvs) ∧ y = kV k ∧ valV kvs k = some v ∧ Q v (upd H2 a (.dK (dropK kvs k)))
def tDPop2 (td ty tx : TE) : TE := fun σ H Q => td σ H fun x H1 => ∃ a, x = .ref a ∧ IsD H1 a ∧ ty σ H1 fun y H2 => tx σ H2 fun z H3 => ∃ kvs k, H3 a = some (.dK kvs) ∧ y = kV k ∧
  (∀ v, valV kvs k = some v → Q v (upd H3 a (.dK (dropK kvs k)))) ∧ (valV kvs k = none → Q z H3)
section
variable {X : Cx} {o e f : Expr} {apos cpos : Pos} {td ty tx : TE}
theorem pe_dget1 (hu : X.A.units + 1 < cLine) (ho : PE X o td) (he : PE X e ty) (m : M1 X o "get" apos e cpos) : PE X (.Call (.Attribute o "get" apos) [e] [] cpos) (tDGet1 td ty) := by
  intro pins s σ H Q I h
  refine wpAny_Call_method m.base m.few m.line PySem.F.plainAttrs_dict PySem.F.slot_dict_get PySem.F.type_dict_get (thn (ho pins s σ H _ I h) fun u s1 ⟨x, H1, I1, rx, a, ex, d, q1⟩ => ?_)
  subst ex
  obtain rfl : u = Value.ref a := rx
  obtain ⟨t1, t2, _⟩ := isD_at I1 d
  refine ⟨t1, t2, ?_⟩
  rw [m.trees]
  refine Calls.callWith_builtin rfl (Calls.evalArgs_plain (Calls.spliced_cons (thn (he pins s1 σ H1 _ I1 q1) fun iv s2 ⟨y, H2, I2, ry, ov, g, q2⟩ => Calls.spliced_nil ?_)))
  exact d_get1 hu I2 g ry fun w' s3 I3 rw' => ⟨_, H2, I3, rw', q2⟩
theorem pe_dget2 (hu : X.A.units + 1 < cLine) (ho : PE X o td) (he : PE X e ty) (hf : PE X f tx) (m : M2 X o "get" apos e f cpos) : PE X (.Call (.Attribute o "get" apos) [e, f] [] cpos) (tDGet2 td ty tx) := by
  intro pins s σ H Q I h
  refine wpAny_Call_method m.base m.few m.line PySem.F.plainAttrs_dict PySem.F.slot_dict_get PySem.F.type_dict_get (thn (ho pins s σ H _ I h) fun u s1 ⟨x, H1, I1, rx, a, ex, d, q1⟩ => ?_)
  subst ex
  obtain rfl : u = Value.ref a := rx
  obtain ⟨t1, t2, _⟩ := isD_at I1 d
  refine ⟨t1, t2, ?_⟩
  rw [m.trees]
  refine Calls.callWith_builtin rfl (Calls.evalArgs_plain (Calls.spliced_cons (thn (he pins s1 σ H1 _ I1 q1) fun iv s2 ⟨y, H2, I2, ry, q2⟩ =>
    Calls.spliced_cons (thn (hf pins s2 σ H2 _ I2 q2) fun fv s3 ⟨z, H3, I3, rz, ov, g, q3⟩ => Calls.spliced_nil ?_))))
  exact d_get2 hu I3 g ry rz fun w' s4 I4 rw' => ⟨_, H3, I4, rw', q3⟩
theorem pe_dpop1 (ho : PE X o td) (he : PE X e ty) (m : M1 X o "pop" apos e cpos) : PE X (.Call (.Attribute o "pop" apos) [e] [] cpos) (tDPop1 td ty) := by
  intro pins s σ H Q I h
  refine wpAny_Call_method m.base m.few m.line PySem.F.plainAttrs_dict PySem.F.slot_dict_pop PySem.F.type_dict_pop (thn (ho pins s σ H _ I h) fun u s1 ⟨x, H1, I1, rx, a, ex, d, q1⟩ => ?_)
  subst ex
  obtain rfl : u = Value.ref a := rx
  obtain ⟨t1, t2, _⟩ := isD_at I1 d
  refine ⟨t1, t2, ?_⟩
  rw [m.trees]
  refine Calls.callWith_builtin rfl (Calls.evalArgs_plain (Calls.spliced_cons (thn (he pins s1 σ H1 _ I1 q1) fun iv s2 ⟨y, H2, I2, ry, kvs, k, v, ea, ey, l, q2⟩ => Calls.spliced_nil ?_)))
  subst ey
  exact d_pop I2 ea ry l (.inl rfl) fun w' s3 I3 rw' => ⟨v, _, I3, rw', q2⟩
theorem pe_dpop2 (ho : PE X o td) (he : PE X e ty) (hf : PE X f tx) (m : M2 X o "pop" apos e f cpos) : PE X (.Call (.Attribute o "pop" apos) [e, f] [] cpos) (tDPop2 td ty tx) := by
  intro pins s σ H Q I h
  refine wpAny_Call_method m.base m.few m.line PySem.F.plainAttrs_dict PySem.F.slot_dict_pop PySem.F.type_dict_pop (thn (ho pins s σ H _ I h) fun u s1 ⟨x, H1, I1, rx, a, ex, d, q1⟩ => ?_)
  subst ex
  obtain rfl : u = Value.ref a := rx
  obtain ⟨t1, t2, _⟩ := isD_at I1 d
  refine ⟨t1, t2, ?_⟩
  rw [m.trees]
  refine Calls.callWith_builtin rfl (Calls.evalArgs_plain (Calls.spliced_cons (thn (he pins s1 σ H1 _ I1 q1) fun iv s2 ⟨y, H2, I2, ry, q2⟩ =>
    Calls.spliced_cons (thn (hf pins s2 σ H2 _ I2 q2) fun fv s3 ⟨z, H3, I3, rz, kvs, k, ea, ey, q3, q4⟩ => Calls.spliced_nil ?_))))
  subst ey
  cases l : valV kvs k with
  | some v => exact d_pop I3 ea ry l (.inr ⟨fv, rfl⟩) fun w' s4 I4 rw' => ⟨v, _, I4, rw', q3 v l⟩
  | none => exact d_popD I3 ea ry l fun s4 I4 => ⟨z, H3, I4, rz, q4 l⟩
end

/-! ### dict(d): a copy -/
section
variable {X : Cx} {pins : List (Addr × Obj)} {σ : St} {H : Hp} {s : Shared} {a : Addr} {kvs : List (Key × V)} {A : Around} {E : Value → Shared → Prop}
theorem d_copyOf {Q : Value → Shared → Prop} (I : Inv X pins σ H s) (e : Rd H a (.dK kvs)) (h : ∀ p s', H p = none → Inv X pins σ (upd H p (.dK kvs)) s' → Q (.ref p) s') : wpAny (model X.prog X.w) A (call (.type "dict") [.ref a]) Q E s := by
  obtain ⟨z, hd, vs, rel, dd⟩ := dk_rd I.hok e
  refine kt_call_dict hd dd (by rw [← rel.length]; exact z) fun h' dd' hs => ?_
  refine h _ _ (I.hok.fresh (Nat.le_refl _)) (I.laid (a := s.heap.objs.size) (o := .dK kvs) (t' := s.toks) (fun b q hq => ?_) (Nat.le_refl _) (dk_new z (beq_eq_false_iff_ne.mpr (Ne.symm (Nat.ne_of_lt I.big))) rel dd'))
  exact (hs.2 b (Nat.ne_of_lt (Heap.lt_size hq))).trans (Heap.get?_push_of_some _ hq)
end


section
variable {X : Cx} {pins : List (Addr × Obj)} {σ : St} {H : Hp} {s : Shared} {a : Addr} {y : V} {u : Value} {A : Around} {E : Value → Shared → Prop}
/-- d[y], not there: a KeyError -/
theorem d_missing {Q : Value → Shared → Prop} (hu : A.units + 1 < cLine) (hh : A.handled = none) (I : Inv X pins σ H s) (g : DGet H a y none) (ry : RelV y u)
    (h : ∀ h' e t', Heap.NewExc s.heap h' e "KeyError" → E (.ref e) { s with heap := h', toks := t' }) : wpAny (model X.prog X.w) A (getItem (.ref a) u) Q E s := by
  rcases g with ⟨kvs, k, e, ey, l⟩ | ⟨kvs, k, b, e, ey, eb, l⟩
  · subst ey
    obtain ⟨z, hd, vs, rel, dd⟩ := dk_rd I.hok e
    have hn : valueAt vs k = none := RelO.none_of (by rw [l]; exact rel.val k)
    exact wpAny_getItem_missing_of (kV_is ry) hd hh dd.mapOf hn fun h' ex ne => h h' ex _ ne
  · subst ey
    cases (show u = Value.ref b from ry)
    obtain ⟨z, hd, xs, rel, dd⟩ := dt_rd I.hok e
    have hn : (atKey xs k).map (·.2) = none := RelO.none_of (by rw [l]; exact rel.val k)
    exact wpAny_getItem_missing_heap (tupleKind_room_in1 hu) (key_of I.hok eb) hd hh dd (Option.map_eq_none_iff.mp hn) fun h' ex ne => h h' ex _ ne
end
end L2

namespace L2
open PySem PySem.Spec PyProof.Rows
section
variable {X : Cx}
/-- len of a dict -/
theorem call_lenD : CallR X (.builtin "len") (fun xs H Q => ∃ a kvs, xs = [V.ref a] ∧ H a = some (.dK kvs) ∧ Q (.int kvs.length) H) := by
  intro pins s σ H xs us Q I r h
  obtain ⟨a, kvs, rfl, ha, q⟩ := h
  obtain ⟨u, rfl, ru⟩ := vals1 r
  cases ru
  exact d_len I (.inl ha) fun t s' I' => ⟨.int kvs.length, H, I', ⟨t, rfl⟩, q⟩
end
/-! ### a dict's pairs: keys that differ -/
section
variable {κ : Type} [DecidableEq κ]
theorem valV_not {kvs : List (κ × V)} {k : κ} (h : valV kvs k = none) : ¬ k ∈ kvs.map (·.1) := by
  intro m
  obtain ⟨p, hp, e⟩ := List.mem_map.mp m
  have q : (kvs.any fun kv => decide (kv.1 = k)) = true := List.any_eq_true.mpr ⟨p, hp, decide_eq_true e⟩
  rw [valV_any, h] at q
  exact absurd q (by simp)
theorem valV_in {kvs : List (κ × V)} {k : κ} {v : V} (h : valV kvs k = some v) : k ∈ kvs.map (·.1) := by
  have q : (kvs.any fun kv => decide (kv.1 = k)) = true := by
    rw [valV_any, h]
    all_goals rfl
  obtain ⟨p, hp, e⟩ := List.any_eq_true.mp q
  exact List.mem_map.mpr ⟨p, hp, of_decide_eq_true e⟩
theorem nd_snoc : ∀ {l : List κ} {k : κ}, l.Nodup → ¬ k ∈ l → (l ++ [k]).Nodup
  | [], k, _, _ => by simp
  | a :: r, k, h, hk => by
    obtain ⟨h1, h2⟩ := List.nodup_cons.mp h
    show (a :: (r ++ [k])).Nodup
    refine List.nodup_cons.mpr ⟨fun m => ?_, nd_snoc h2 fun m => hk (List.mem_cons.mpr (Or.inr m))⟩
    rcases List.mem_append.mp m with q | q
    · exact h1 q
    · exact hk (List.mem_cons.mpr (Or.inl (List.mem_singleton.mp q).symm))
theorem nd_putK {kvs : List (κ × V)} {k : κ} (v : V) (hn : (kvs.map (·.1)).Nodup) (h : valV kvs k = none) : ((putK kvs k v).map (·.1)).Nodup := by
  rw [putK_new v h, List.map_append]
  exact nd_snoc hn (valV_not h)
theorem dropK_pos {p : κ × V} {r : List (κ × V)} {k : κ} (e : p.1 = k) : dropK (p :: r) k = dropK r k := by
  unfold dropK
  rw [List.filter_cons, if_neg (by simp [e])]
theorem dropK_neg {p : κ × V} {r : List (κ × V)} {k : κ} (e : ¬ p.1 = k) : dropK (p :: r) k = p :: dropK r k := by
  unfold dropK
  rw [List.filter_cons, if_pos (by simp [e])]
theorem dropK_no : ∀ {kvs : List (κ × V)} {k : κ}, ¬ k ∈ kvs.map (·.1) → dropK kvs k = kvs
  | [], _, _ => rfl
  | p :: r, k, h => by
    have h' : ¬ k ∈ r.map (·.1) := fun m => by
      obtain ⟨q, hq, e⟩ := List.mem_map.mp m
      exact h (List.mem_map.mpr ⟨q, List.mem_cons.mpr (Or.inr hq), e⟩)
    rw [dropK_neg fun e => h (List.mem_map.mpr ⟨p, List.mem_cons.mpr (Or.inl rfl), e⟩), dropK_no h']
theorem dropK_mem {kvs : List (κ × V)} {k : κ} {p : κ × V} (h : p ∈ dropK kvs k) : p ∈ kvs := (List.mem_filter.mp h).1
theorem nd_dropK : ∀ {kvs : List (κ × V)} {k : κ}, (kvs.map (·.1)).Nodup → ((dropK kvs k).map (·.1)).Nodup
  | [], _, _ => List.nodup_nil
  | p :: r, k, h => by
    have h : (p.1 :: r.map (·.1)).Nodup := h
    obtain ⟨h1, h2⟩ := List.nodup_cons.mp h
    by_cases e : p.1 = k
    · rw [dropK_pos e]
      exact nd_dropK h2
    · rw [dropK_neg e]
      show (p.1 :: (dropK r k).map (·.1)).Nodup
      refine List.nodup_cons.mpr ⟨fun m => h1 ?_, nd_dropK h2⟩
      obtain ⟨q, hq, eq⟩ := List.mem_map.mp m
      exact List.mem_map.mpr ⟨q, dropK_mem hq, eq⟩
theorem dropK_len : ∀ {kvs : List (κ × V)} {k : κ}, (kvs.map (·.1)).Nodup → k ∈ kvs.map (·.1) → (dropK kvs k).length + 1 = kvs.length
  | [], _, _, m => by simp at m
  | p :: r, k, h, m => by
    have h : (p.1 :: r.map (·.1)).Nodup := h
    have m : k = p.1 ∨ k ∈ r.map (·.1) := List.mem_cons.mp m
    obtain ⟨h1, h2⟩ := List.nodup_cons.mp h
    by_cases e : p.1 = k
    · subst e
      rw [dropK_pos rfl, dropK_no h1]
      all_goals rfl
    · have m' : k ∈ r.map (·.1) := m.resolve_left fun z => e z.symm
      have q := dropK_len h2 m'
      rw [dropK_neg e, List.length_cons, List.length_cons]
      omega
end
end L2

set_option Elab.async false
set_option linter.all false
set_option maxRecDepth 100000
namespace L2
open PySem PySem.Spec PyProof.Rows

/-! ### a comprehension's block -/
/-- the context of the block: its frame at C, its own names N, the records at ex turn -/
def cxComp (X : Cx) (scope : Scope) (cl : List (Str × Addr)) (N : List Str) (C : Addr) (ex : List Addr) (s₀ : Shared) (H₀ : Hp) : Cx where
  prog := X.prog
  w := X.w
  K := X.K
  mg := X.mg
  base := X.base
  A := X.A
  N := N
  s₀ := s₀
  H₀ := H₀
  env := compEnvC scope cl C X.env
  outer := X.stack
  stack := X.stack
  ex := ex
  fn := fun _ => false
  calm := X.calm
  pn := []
  xe := fun _ _ => False

/-- what the names of the block are: locals tn first, then the captured ones cn, which stand in the slots caps of the surrounding body -/
structure CompScope (X : Cx) (scope : Scope) (tn cn : List Str) (caps : List Nat) : Prop where
  kind : scope.kind = .function
  nocell : ∀ y ∈ scope.names, y.2 ≠ .cell
  names : ∀ y ∈ scope.names, y.2 = .local → scope.names.lookup y.1 = some .local
  caught : ∀ y ∈ scope.names, y.2 = .free → X.env.kindOf y.1 = some .cell ∨ X.env.kindOf y.1 = some .free
  free : ∀ y ∈ cn, scope.names.lookup y = some .free
  slots : caps.map (fun j => X.N[j]?) = cn.map some

theorem CompScope.of {X : Cx} {scope osc : Scope} {tn cn : List Str} {caps : List Nat} (ho : X.env.scope = osc) (kind : scope.kind = .function) (nocell : ∀ y ∈ scope.names, y.2 ≠ .cell)
    (names : ∀ y ∈ scope.names, y.2 = .local → scope.names.lookup y.1 = some .local) (caught : ∀ y ∈ scope.names, y.2 = .free → osc.names.lookup y.1 = some .cell ∨ osc.names.lookup y.1 = some .free) (free : ∀ y ∈ cn, scope.names.lookup y = some .free)
    (slots : caps.map (fun j => X.N[j]?) = cn.map some) : CompScope X scope tn cn caps :=
  ⟨kind, nocell, names, fun y hy hf => by show X.env.scope.names.lookup y.1 = _ ∨ X.env.scope.names.lookup y.1 = _; rw [ho]; exact caught y hy hf, free, slots⟩
def capσ (σ : St) (caps : List Nat) : St := caps.map fun j => (σ[j]?).getD none

theorem closureFor_acc (env : Env) : ∀ (names : List (Str × NameKind)) (cs : List (Str × Addr)), (∀ x ∈ names, x.2 = .free → ∃ c, env.cells.lookup x.1 = some c) → (∀ y c, cs.lookup y = some c → env.cells.lookup y = some c) →
    ∃ cl : List (Str × Addr), (forIn names cs fun (x : Str × NameKind) (r : List (Str × Addr)) => (if (x.2 == NameKind.free) = true then do let a ← cellOf env x.1; pure (ForInStep.yield ((x.1, a) :: r)) else pure (ForInStep.yield r) : Sem (ForInStep (List (Str × Addr))))) = pure cl ∧
      (∀ y c, cl.lookup y = some c → env.cells.lookup y = some c) ∧ (∀ x ∈ names, x.2 = .free → ∃ c, cl.lookup x.1 = some c) ∧ ∀ y c, cs.lookup y = some c → ∃ c', cl.lookup y = some c'
  | [], cs, _, h2 => ⟨cs, by simp, h2, fun x h => absurd h (by simp), fun y c h => ⟨c, h⟩⟩
  | (n, k) :: r, cs, h1, h2 => by
    by_cases hk : (k == NameKind.free) = true
    · obtain ⟨c, hc⟩ := h1 (n, k) List.mem_cons_self (by simpa using hk)
      have h2' : ∀ y d, ((n, c) :: cs).lookup y = some d → env.cells.lookup y = some d := fun y d h => by
        rw [List.lookup_cons] at h
        split at h
        · rename_i e
          have e' : y = n := by simpa using e
          cases h
          rw [e']; exact hc
        · exact h2 y d h
      obtain ⟨cl, e, p1, p2, p3⟩ := closureFor_acc env r ((n, c) :: cs) (fun x hx => h1 x (List.mem_cons_of_mem _ hx)) h2'
      refine ⟨cl, ?_, p1, fun x hx hf => ?_, fun y d h => ?_⟩
      · rw [List.forIn_cons]
        simp only [hk, if_true, cellOf, hc, pure_bind]
        exact e
      · rcases List.mem_cons.mp hx with e1 | e1
        · subst e1
          exact p3 n c (by rw [List.lookup_cons]; simp)
        · exact p2 x e1 hf
      · by_cases hy : (y == n) = true
        · exact p3 y c (by rw [List.lookup_cons, hy])
        · exact p3 y d (by rw [List.lookup_cons]; simp only [Bool.not_eq_true] at hy; rw [hy]; exact h)
    · obtain ⟨cl, e, p1, p2, p3⟩ := closureFor_acc env r cs (fun x hx => h1 x (List.mem_cons_of_mem _ hx)) h2
      refine ⟨cl, ?_, p1, fun x hx hf => ?_, p3⟩
      · rw [List.forIn_cons]
        simp only [hk, if_false, pure_bind, Bool.false_eq_true]
        exact e
      · rcases List.mem_cons.mp hx with e1 | e1
        · subst e1
          exact absurd (by simpa using hf) hk
        · exact p2 x e1 hf
theorem closureFor_some {scope : Scope} {env : Env} (h : ∀ x ∈ scope.names, x.2 = .free → ∃ c, env.cells.lookup x.1 = some c) :
    ∃ cl : List (Str × Addr), closureFor scope env = pure cl ∧ (∀ y c, cl.lookup y = some c → env.cells.lookup y = some c) ∧ ∀ x ∈ scope.names, x.2 = .free → ∃ c, cl.lookup x.1 = some c := by
  obtain ⟨cl, e, p1, p2, _⟩ := closureFor_acc env scope.names [] h (fun y c h => by simp at h)
  refine ⟨cl, ?_, p1, p2⟩
  unfold closureFor
  simp only [bind_pure]
  first
    | exact e
    | (rw [← e]; rfl)
    | (rw [← e]; congr 1; funext x r; obtain ⟨n, k⟩ := x; by_cases hk : (k == NameKind.free) = true <;> simp [hk])

theorem lookup_relabel_free {env : Env} : ∀ {names : List (Str × NameKind)} {x : Str}, names.lookup x = some .free →
    (names.map fun (n, k) => if (k == NameKind.free && env.scope.kind == .function && env.kindOf n == some .cell) then (n, NameKind.cell) else (n, k)).lookup x = some .cell ∨
    (names.map fun (n, k) => if (k == NameKind.free && env.scope.kind == .function && env.kindOf n == some .cell) then (n, NameKind.cell) else (n, k)).lookup x = some .free
  | [], _, h => by simp at h
  | (n, k) :: r, x, h => by
    have ih := @lookup_relabel_free env r x
    show List.lookup x ((if (k == NameKind.free && env.scope.kind == .function && env.kindOf n == some .cell) = true then (n, NameKind.cell) else (n, k)) :: _) = _ ∨ List.lookup x ((if (k == NameKind.free && env.scope.kind == .function && env.kindOf n == some .cell) = true then (n, NameKind.cell) else (n, k)) :: _) = _
    cases hx : x == n with
    | true =>
      simp only [List.lookup_cons, hx] at h
      cases h
      by_cases hc : (NameKind.free == NameKind.free && env.scope.kind == .function && env.kindOf n == some .cell) = true
      · rw [if_pos hc]; simp [List.lookup_cons, hx]
      · rw [if_neg hc]; simp [List.lookup_cons, hx]
    | false =>
      simp only [List.lookup_cons, hx] at h
      by_cases hc : (k == NameKind.free && env.scope.kind == .function && env.kindOf n == some .cell) = true
      · rw [if_pos hc]; simp only [List.lookup_cons, hx]; exact ih h
      · rw [if_neg hc]; simp only [List.lookup_cons, hx]; exact ih h
theorem relabel_inv {env : Env} : ∀ {names : List (Str × NameKind)} {x : Str}, (∀ y ∈ names, y.2 ≠ .cell) →
    ((names.map fun (n, k) => if (k == NameKind.free && env.scope.kind == .function && env.kindOf n == some .cell) then (n, NameKind.cell) else (n, k)).lookup x = some .cell ∨
    (names.map fun (n, k) => if (k == NameKind.free && env.scope.kind == .function && env.kindOf n == some .cell) then (n, NameKind.cell) else (n, k)).lookup x = some .free) → names.lookup x = some .free
  | [], _, _, h => by simp at h
  | (n, k) :: r, x, hn, h => by
    have ih := @relabel_inv env r x (fun y hy => hn y (List.mem_cons_of_mem _ hy))
    have h : List.lookup x ((if (k == NameKind.free && env.scope.kind == .function && env.kindOf n == some .cell) = true then (n, NameKind.cell) else (n, k)) :: _) = _ ∨ List.lookup x ((if (k == NameKind.free && env.scope.kind == .function && env.kindOf n == some .cell) = true then (n, NameKind.cell) else (n, k)) :: _) = _ := h
    cases hx : x == n with
    | true =>
      simp only [List.lookup_cons, hx]
      by_cases hc : (k == NameKind.free && env.scope.kind == .function && env.kindOf n == some .cell) = true
      · have : (k == NameKind.free) = true := by
          simp only [Bool.and_eq_true] at hc; exact hc.1.1
        have : k = .free := by simpa using this
        rw [this]
      · rw [if_neg hc] at h
        simp only [List.lookup_cons, hx] at h
        rcases h with h | h
        · exact absurd (Option.some.inj h) (hn (n, k) List.mem_cons_self)
        · rw [Option.some.inj h]
    | false =>
      simp only [List.lookup_cons, hx]
      by_cases hc : (k == NameKind.free && env.scope.kind == .function && env.kindOf n == some .cell) = true
      · rw [if_pos hc] at h; simp only [List.lookup_cons, hx] at h; exact ih h
      · rw [if_neg hc] at h; simp only [List.lookup_cons, hx] at h; exact ih h

section
variable {X : Cx} {scope : Scope} {tn cn : List Str} {caps : List Nat} {pins : List (Addr × Obj)} {σ : St} {H : Hp} {s : Shared} {fp : List Addr} {cl : List (Str × Addr)} {ob : Obj}

theorem comp_ok (S : CompScope X scope tn cn caps) (I : Inv X pins σ H s) (hcl : ∀ y c, cl.lookup y = some c → X.env.cells.lookup y = some c) (hcl2 : ∀ x ∈ scope.names, x.2 = .free → ∃ c, cl.lookup x.1 = some c)
    (hf : ∀ b ∈ fp, FpOk X pins H b) (hfp : ∀ b ∈ fp, b < s.heap.objs.size) (N : List Str) :
    (cxComp X scope cl N (s.heap.push ob).objs.size (s.heap.objs.size :: fp) { s with heap := s.heap.push ob } H).Ok := by
  have hC : (s.heap.push ob).objs.size = s.heap.objs.size + 1 := by rw [Heap.size_push]
  refine ⟨I.ok.mod, S.kind, I.ok.glob, I.ok.blt, Nat.le_refl _, fun x y c h1 h2 => I.ok.inj x y c (hcl x c h1) (hcl y c h2), fun x hx => ?_, fun x c h => absurd h (by simp [cxComp]), I.ok.hd, I.ok.frames, .inl rfl, fun b hb => ?_,
    fun b o e => ⟨Heap.get?_push_of_some _ (I.bs b o e).1, (I.bs b o e).2⟩, ?_, fun b o e hb => ?_, fun b hb z => ?_, ?_, I.stkFree⟩
  · exact hcl2 (x, .free) (PySem.mem_of_lookup (relabel_inv S.nocell hx)) rfl
  · rcases List.mem_cons.mp (show b ∈ s.heap.objs.size :: fp from hb) with e | hb
    · subst e
      refine ⟨fun z => ?_, fun x c e z => ?_⟩
      · have z' : s.heap.objs.size = (s.heap.push ob).objs.size := z
        omega
      · obtain ⟨v, q⟩ := I.cell x c (hcl x c e)
        exact absurd q.lt (by rw [z]; exact Nat.lt_irrefl _)
    · refine ⟨fun z => ?_, fun x c e => (hf b hb).2.2.2.2.1 x c (hcl x c e)⟩
      have z' : b = (s.heap.push ob).objs.size := z
      have h1 := hfp b hb
      rw [z', hC] at h1
      exact Nat.lt_irrefl _ (Nat.lt_of_succ_lt h1)
  · show X.base.objs.size ≤ (s.heap.push ob).objs.size
    have h1 := I.ok.bsz
    have h2 := I.sz
    omega
  · rcases List.mem_cons.mp (show b ∈ s.heap.objs.size :: fp from hb) with e1 | hb
    · subst e1
      exact absurd (Heap.lt_size (I.bk _ o e)) (Nat.lt_irrefl _)
    · rcases (hf b hb).2.2.2.1 with z | z
      · exact I.ok.noex b o e z
      · have h1 := I.ok.bsz
        have h2 := Heap.lt_size e
        exact Nat.lt_irrefl _ (Nat.lt_of_lt_of_le h2 (Nat.le_trans h1 z))
  · have z' := I.stkSub b z
    rcases List.mem_cons.mp (show b ∈ s.heap.objs.size :: fp from hb) with e1 | hb
    · subst e1
      rcases List.mem_cons.mp z' with z1 | z1
      · exact absurd I.lt (by rw [← z1]; exact Nat.lt_irrefl _)
      · exact I.nofs (Nat.le_refl _) z1
    · rcases List.mem_cons.mp z' with z1 | z1
      · exact (hf b hb).2.1 z1
      · exact (hf b hb).2.2.1 z1
  · exact I.stack.of_keeps fun b o e _ => ⟨o, Heap.get?_push_of_some _ e, rfl⟩

theorem comp_inv (S : CompScope X scope tn cn caps) (I : Inv X pins σ H s) (hcl : ∀ y c, cl.lookup y = some c → X.env.cells.lookup y = some c) (hcl2 : ∀ x ∈ scope.names, x.2 = .free → ∃ c, cl.lookup x.1 = some c)
    (hf : ∀ b ∈ fp, FpOk X pins H b) (hfp : ∀ b ∈ fp, b < s.heap.objs.size) (hob : ∀ v, ob.data ≠ .cell v) (hfr : ob.isFreed = false) {h1 : Heap} {m0 : Str → Option Value} {tk : Nat} (hn : h1.Ns (s.heap.push ob).objs.size m0)
    (hk : ∀ b o, (s.heap.push ob).get? b = some o → h1.get? b = some o) :
    Inv (cxComp X scope cl (tn ++ cn) (s.heap.push ob).objs.size (s.heap.objs.size :: fp) { s with heap := s.heap.push ob } H) (X.pn ++ pins ++ [(s.heap.objs.size, ob)]) (List.replicate tn.length none ++ capσ σ caps) H { s with heap := h1, toks := tk } := by
  have hC : (s.heap.push ob).objs.size = s.heap.objs.size + 1 := by rw [Heap.size_push]
  have hk' : ∀ b o, s.heap.get? b = some o → h1.get? b = some o := fun b o e => hk b o (Heap.get?_push_of_some _ e)
  have hlen : caps.length = cn.length := by have := congrArg List.length S.slots; simpa using this
  refine ⟨comp_ok S I hcl hcl2 hf hfp _, rfl, I.bare, Un.kept hk, ⟨m0, hn, fun i x v e1 e2 e3 => ?_⟩, fun x c e => ?_, I.hok.fresh (by rw [hC]; exact Nat.le_succ _), fun x c e => I.freeC x c (hcl x c e), fun p hp => ?_, I.hok.kept hk', ?_⟩
  · have e1 : (tn ++ cn)[i]? = some x := e1
    by_cases hi : i < tn.length
    · rw [List.getElem?_append_left (by simpa using hi), List.getElem?_replicate, if_pos hi] at e2
      cases e2
    · have hi' : tn.length ≤ i := Nat.le_of_not_lt hi
      rw [List.getElem?_append_right (by simpa using hi'), List.length_replicate] at e2
      rw [List.getElem?_append_right hi'] at e1
      have hx : x ∈ cn := List.mem_of_getElem? e1
      have hsl : (caps.map fun j => X.N[j]?)[i - tn.length]? = (cn.map some)[i - tn.length]? := by rw [S.slots]
      rw [List.getElem?_map, List.getElem?_map, e1] at hsl
      unfold capσ at e2
      rw [List.getElem?_map] at e2
      cases hj : caps[i - tn.length]? with
      | none => rw [hj] at e2; cases e2
      | some j =>
        rw [hj] at hsl e2
        have hN : X.N[j]? = some x := Option.some.inj hsl
        have e2 : (σ[j]?).getD none = some v := Option.some.inj e2
        have hσ : σ[j]? = some (some v) := by
          cases q : σ[j]? with
          | none => rw [q] at e2; cases e2
          | some y => rw [q] at e2; rw [← e2]; rfl
        have hkx := S.caught (x, .free) (PySem.mem_of_lookup (S.free x hx)) rfl
        obtain ⟨m, _, hl⟩ := I.loc
        obtain ⟨u, r, l⟩ := hl j x v hN hσ (by rcases hkx with z | z; exact .inr (.inl z); exact .inr (.inr z))
        refine ⟨u, r, ?_⟩
        rcases l with ⟨k, _⟩ | ⟨k, c, e, z⟩
        · rcases hkx with z | z
          · rw [show X.env.kindOf x = _ from k] at z; cases z
          · rw [show X.env.kindOf x = _ from k] at z; cases z
        · obtain ⟨c', ec⟩ := hcl2 (x, .free) (PySem.mem_of_lookup (S.free x hx)) rfl
          have e' := hcl x c' ec
          rw [e] at e'
          cases e'
          obtain ⟨oc, ho, hd⟩ := z
          exact .inr ⟨lookup_relabel_free (S.free x hx), c, ec, oc, hk' c oc ho, hd⟩
  · obtain ⟨v, oc, ho, hd⟩ := I.cell x c (hcl x c e)
    exact ⟨v, oc, hk' c oc ho, hd⟩
  · have hp : p ∈ X.pn ++ pins ++ [(s.heap.objs.size, ob)] := hp
    rcases List.mem_append.mp hp with hp | hp
    · obtain ⟨e, n, ne, nf, d⟩ := I.pin p hp
      refine ⟨hk' _ _ e, n, fun z => ?_, fun z => ?_, d⟩
      · have z' : p.1 = (s.heap.push ob).objs.size := z
        have h1 := Heap.lt_size e
        rw [z', hC] at h1
        exact Nat.lt_irrefl _ (Nat.lt_of_succ_lt h1)
      · rcases List.mem_cons.mp (I.stkSub p.1 z) with z1 | z1
        · exact ne z1
        · exact nf z1
    · have e : p = (s.heap.objs.size, ob) := by simpa using hp
      subst e
      refine ⟨hk _ _ (Heap.get?_push_size _ hfr), I.hok.fresh (Nat.le_refl _), fun z => ?_, fun z => ?_, hob⟩
      · have z' : s.heap.objs.size = (s.heap.push ob).objs.size := z
        omega
      · rcases List.mem_cons.mp (I.stkSub s.heap.objs.size z) with z1 | z1
        · exact absurd I.lt (by rw [← z1]; exact Nat.lt_irrefl _)
        · exact I.nofs (Nat.le_refl _) z1
  · show (List.replicate tn.length none ++ capσ σ caps).length = (tn ++ cn).length
    unfold capσ
    simp [hlen]

theorem comp_fin {N : List Str} {σ0 : St} {H' : Hp} {s' : Shared} {C : Addr} {s3 : Shared} {its : List Value} {n : Nat} {ys : List V} (I : Inv X pins σ H s) (hf : ∀ b ∈ fp, FpOk X pins H b) (hfp : ∀ b ∈ fp, b < s.heap.objs.size) (hC : s.heap.objs.size < C)
    (hs3 : ∀ b o, s.heap.get? b = some o → s3.heap.get? b = some o) (hos : s3.os = s.os)
    (I' : Inv (cxComp X scope cl N C (s.heap.objs.size :: fp) s3 H) (X.pn ++ pins ++ [(s.heap.objs.size, { cls := .type "list", data := .seq its.toArray n })]) σ0 H' s') (rv : Vals ys its) (hz : ys.length ≤ sizeLine) :
    Inv X pins σ (upd H' s.heap.objs.size (.lst ys)) s' ∧ H' s.heap.objs.size = none ∧ FpOk X pins (upd H' s.heap.objs.size (.lst ys)) C ∧ ∃ m, s'.heap.Ns C m := by
  have pD := I'.pin (s.heap.objs.size, { cls := .type "list", data := .seq its.toArray n }) (by show _ ∈ [] ++ (X.pn ++ pins ++ [_]); simp)
  have hD : H' s.heap.objs.size = none := pD.2.1
  have base : Un (frs X.stack) (s.heap.objs.size :: fp) H H' s3.heap s'.heap := I'.base
  have old : ∀ b o, s.heap.get? b = some o → b ≠ s.heap.objs.size := fun b o e => Nat.ne_of_lt (Heap.lt_size e)
  have nex : ∀ b o, s.heap.get? b = some o → b ∉ fp → b ∉ s.heap.objs.size :: fp := fun b o e h z => by
    rcases List.mem_cons.mp z with z | z
    · exact old b o e z
    · exact h z
  have oldT : ∀ b u, H b = some u → b ≠ s.heap.objs.size := fun b u e => Nat.ne_of_lt (I.hok.lt e)
  refine ⟨I.call' (ch := fp) (I'.os.trans hos) ⟨fun b o e n hb hx => base.keep b o (hs3 b o e) n hb (nex b o e hx), fun b o e n hb hx => base.slot b o (hs3 b o e) n hb (nex b o e hx), fun b o e n hx => ?_, fun b o e hx => base.there b o (hs3 b o e) (nex b o e hx),
    fun b xs e => ?_, fun b o u e => ?_, fun b ps e => ?_⟩ (fun a o e => ?_) I'.bare fun b hb => ?_, hD, I.fpOk (Nat.le_of_lt hC) ?_, ?_⟩
  · rw [upd_ne (old b o e)]; exact base.free b o (hs3 b o e) n (nex b o e hx)
  · rw [upd_ne (oldT b _ e)]; exact base.tups b xs e
  · rw [upd_ne (oldT b _ e)]; exact base.frzs b o u e
  · rw [upd_ne (oldT b _ e)]; exact base.tbls b ps e
  · by_cases ha : a = s.heap.objs.size
    · subst ha
      rw [upd_same] at e
      cases e
      exact ⟨hz, its, n, rv, pD.1⟩
    · rw [upd_ne ha] at e
      exact (I'.hok a o e).stay (fun _ _ _ q => q) (fun c q => by rw [upd_ne (ne_of_none q hD)]; exact q) fun c xs q => by rw [upd_ne (ne_of_none q hD)]; exact q
  · have q := hf b hb
    exact ⟨q.2.2.2.1, q.2.1, q.2.2.2.2.1, q.2.2.2.2.2⟩
  · rw [upd_ne (Nat.ne_of_gt hC)]; exact I'.free
  · obtain ⟨m, hn, _⟩ := I'.loc
    exact ⟨m, hn⟩
end

/-! ### its loop -/
def PTs (X : Cx) (ifs : List Expr) (t : TT) : Prop :=
  ∀ (pins : List (Addr × Obj)) (s : Shared) (σ : St) (H : Hp) (Q : Bool → Hp → Prop), Inv X pins σ H s → t σ H Q →
    wpAny (model X.prog X.w) X.A (forIn ifs true fun c r => if r = true then do let ok ← isTrue c X.env (eval c X.env); pure (ForInStep.yield ok) else pure (ForInStep.yield r)) (TP X pins σ Q) X.xe s
def tYes : TT := fun _ H Q => Q true H
theorem pts_nil {X : Cx} : PTs X [] tYes := fun _ _ _ H _ I h => wpAny_tests_nil ⟨H, I, h⟩
theorem pts_one {X : Cx} {c : Expr} {t : TT} (h : PT X c t) : PTs X [c] t := fun pins s σ H Q I hw => wpAny_tests_one (h pins s σ H Q I hw)

theorem compLoop_own {prog : Program} {w : World} {A : Around} {R : Result → Shared → Prop} {s : Shared} {elt target iter : Expr} {ifs : List Expr} {scope : Scope} {pos : Pos} {it acc : Value} {env : Env} (I : Nat → Shared → Prop)
    (turn : ∀ n s, I n s → wpAny (model prog w) A (pyNext it) (fun r s₁ => match r with
      | none => R (.ok .next) s₁
      | some v => wpAny (model prog w) A (letOwnedTupleGo target it v) (fun _ s₁' => wpAny (model prog w) A (assign target env v) (fun _ s₂ =>
          wpAny (model prog w) A (forIn ifs true fun c r => if r = true then do let ok ← isTrue c env (eval c env); pure (ForInStep.yield ok) else pure (ForInStep.yield r)) (fun ok s₃ =>
            if ok = true then wpAny (model prog w) A (eval elt env) (fun x s₄ =>
              wpAny (model prog w) A (call (.builtin "list.append") [acc, x]) (fun _ s₅ => ∃ m, m < n ∧ I m s₅) (fun _ _ => False) s₄) (fun _ _ => False) s₃
            else ∃ m, m < n ∧ I m s₃) (fun _ _ => False) s₂) (fun _ _ => False) s₁') (fun _ _ => False) s₁) (fun _ _ => False) s)
    (n : Nat) (h : I n s) :
    codeAny (model prog w) A (.compLoop (.ListComp elt [⟨target, iter, ifs, 0⟩] scope pos) 0 it acc env) R s := by
  refine codeAny_loop rfl I (fun n s hI => ?_) n h
  show wpAny _ A ((compTurn (.ListComp elt [⟨target, iter, ifs, 0⟩] scope pos) 0 it acc env).onRaise (fun x => do noteFrame x env; theTreesLotGoes x)) _ _ s
  refine wpAny_noted ?_
  rw [compTurn_list]
  refine wpAny_bind (wpAny_standAt (wpAny_bind (wpAny_mono (turn n s hI) (fun r s₁ h₁ => ?_) fun _ _ h' => h'.elim)))
  cases r with
  | none => exact wpAny_pure h₁
  | some v =>
    refine wpAny_bind (wpAny_mono h₁ (fun _ s₁' h₁' => ?_) fun _ _ h' => h'.elim)
    refine wpAny_bind (wpAny_mono h₁' (fun _ s₂ h₂ => wpAny_bind (wpAny_mono h₂ (fun ok s₃ h₃ => ?_) fun _ _ h' => h'.elim)) fun _ _ h' => h'.elim)
    cases ok with
    | false => exact wpAny_pure ⟨rfl, h₃⟩
    | true =>
      exact wpAny_bind (wpAny_bind (wpAny_mono h₃ (fun x s₄ h₄ => wpAny_bind (wpAny_mono h₄ (fun _ s₅ h₅ => wpAny_pure (wpAny_pure ⟨rfl, h₅⟩)) fun _ _ h' => h'.elim)) fun _ _ h' => h'.elim))

/-- the turns: W by the turn, a measure, what is listed so far; F what is wanted at the end -/
def CompW (J : It) (g : TG) (tt : TT) (te : TE) (σ0 : St) (W : Nat → Nat → List V → Hp → Prop) (F : List V → Hp → Prop) : Prop :=
  ∀ i m ys H, W i m ys H → (J.stop i H ∧ ys.length ≤ sizeLine ∧ F ys H) ∨ (J.go i H ∧ ∃ N : List V → Hp → Prop, (∀ ys' H', N ys' H' → ∃ m', m' < m ∧ W (i + 1) m' ys' H') ∧
    ∀ x H', J.yld i H x H' → g x σ0 H' fun σ2 H2 => (σ2.length = σ0.length ∧ ∀ (j : Nat) (v : V), σ0[j]? = some (some v) → σ2[j]? = some (some v)) ∧
      tt σ2 H2 fun b H3 => if b = true then te σ2 H3 fun y H4 => ys.length ≤ sizeLine ∧ N (ys ++ [y]) H4 else N ys H3)

section
variable {X : Cx} {scope : Scope} {tn cn : List Str} {caps : List Nat}
/-- the block as a whole, from the iterator on -/
theorem comp_block {tg iter elt : Expr} {ifs : List Expr} {pos : Pos} {g : TG} {tt : TT} {te : TE} {pins : List (Addr × Obj)} {σ : St} {H : Hp} {s : Shared} {it : Addr} {fp : List Addr} {tnn : Nat → Heap → Prop} {J : It} {cl : List (Str × Addr)}
    {W : Nat → Nat → List V → Hp → Prop} {F : List V → Hp → Prop} {m0 : Nat} {E : Value → Shared → Prop} {RR : Value → Addr → Result → Shared → Prop}
    (S : CompScope X scope tn cn caps) (hc : X.calm = true) (hcl : ∀ y c, cl.lookup y = some c → X.env.cells.lookup y = some c) (hcl2 : ∀ x ∈ scope.names, x.2 = .free → ∃ c, cl.lookup x.1 = some c)
    (hg : ∀ C ex s₀ H₀, PG (cxComp X scope cl (tn ++ cn) C ex s₀ H₀) tg g) (ht : ∀ C ex s₀ H₀, PTs (cxComp X scope cl (tn ++ cn) C ex s₀ H₀) ifs tt) (he : ∀ C ex s₀ H₀, PE (cxComp X scope cl (tn ++ cn) C ex s₀ H₀) elt te)
    (I : Inv X pins σ H s) (T : Turn X.prog X.w X.K tg J fp it tnn) (st : tnn 0 s.heap) (hf : ∀ b ∈ fp, FpOk X pins H b) (hW : CompW J g tt te (List.replicate tn.length none ++ capσ σ caps) W F) (w0 : W 0 m0 [] H)
    (hRR : ∀ D C s' H' ys m, H' D = none → F ys H' → Inv X pins σ (upd H' D (.lst ys)) s' → FpOk X pins (upd H' D (.lst ys)) C → s'.heap.Ns C m → RR (.ref D) C (.ok .next) s') :
    wpAny (model X.prog X.w) X.A (newList []) (fun acc s₃ => wpAny (model X.prog X.w) X.A (newFunctionEnv scope X.env.globals cl [] X.env.qual none .none (some X.env)) (fun cenv s₄ =>
      codeAny (model X.prog X.w) X.A (.compStart (.ListComp elt [⟨tg, iter, ifs, 0⟩] scope pos) 0 (.ref it) acc { cenv with scope := relabel scope X.env }) (RR acc cenv.locals) s₄) E s₃) E s := by
  have hfp : ∀ b ∈ fp, b < s.heap.objs.size := fun b hb => let ⟨o, e, _⟩ := T.obj 0 s.heap st b hb; Heap.lt_size e
  refine wpAny_newObj_type (wpAny_newFunctionEnv S.nocell (by intro y hy; simp at hy) (fun h₁ hns₁ hsb₁ => ?_) S.kind)
  dsimp only at hns₁ hsb₁ ⊢
  have hk : ∀ b o, (s.heap.push { cls := .type "list", dict := none, data := .seq ([] : List Value).toArray }).get? b = some o → h₁.get? b = some o := fun b o e =>
    hsb₁.extBut b o (Nat.ne_of_lt (Heap.lt_size e)) (Heap.get?_push_of_some _ e)
  have I1 := comp_inv (tk := s.toks + ([] : List (Str × Value)).length) S I hcl hcl2 hf hfp (ob := { cls := .type "list", dict := none, data := .seq ([] : List Value).toArray }) (fun v z => by cases z) rfl hns₁ hk
  have hC : (s.heap.push { cls := .type "list", dict := none, data := .seq ([] : List Value).toArray }).objs.size = s.heap.objs.size + 1 := by rw [Heap.size_push]
  generalize hCe : (s.heap.push { cls := .type "list", dict := none, data := .seq ([] : List Value).toArray }).objs.size = C at *
  have st1 : tnn 0 h₁ := T.keep 0 _ _ st fun b hb o e => hk b o (Heap.get?_push_of_some _ e)
  have hE : ∀ b o, s.heap.get? b = some o → ({ s with heap := s.heap.push { cls := .type "list", dict := none, data := .seq ([] : List Value).toArray } } : Shared).heap.get? b = some o := fun b o e => Heap.get?_push_of_some _ e
  generalize hs3 : ({ s with heap := s.heap.push { cls := .type "list", dict := none, data := .seq ([] : List Value).toArray } } : Shared) = s3 at *
  have hos : s3.os = s.os := by rw [← hs3]
  have hfp0 : ∀ b ∈ fp, H b = none := fun b hb => (hf b hb).1
  -- the iterator's objects, seen from the block
  have stat : ∀ {its : List Value} {n : Nat} {H' : Hp}, (∀ b ∈ fp, H' b = none) → ∀ b ∈ fp, FpOk (cxComp X scope cl (tn ++ cn) C (s.heap.objs.size :: fp) s3 H) (X.pn ++ pins ++ [(s.heap.objs.size, { cls := .type "list", data := .seq its.toArray n })]) H' b := fun {its n H'} hn b hb => by
    have q := hf b hb
    have hlt := hfp b hb
    refine ⟨hn b hb, fun z => ?_, fun z => ?_, .inl (List.mem_cons_of_mem _ hb), fun x c e => q.2.2.2.2.1 x c (hcl x c e), fun p hp z => ?_⟩
    · have z' : b = C := z
      rw [z', hC] at hlt
      exact Nat.lt_irrefl _ (Nat.lt_of_succ_lt hlt)
    · rcases List.mem_cons.mp (I.stkSub b z) with z1 | z1
      · exact q.2.1 z1
      · exact q.2.2.1 z1
    · have hp : p ∈ X.pn ++ pins ++ [(s.heap.objs.size, _)] := hp
      rcases List.mem_append.mp hp with hp | hp
      · exact q.2.2.2.2.2 p hp z
      · have e := List.mem_singleton.mp hp
        rw [e] at z
        have z' : s.heap.objs.size = b := z
        rw [← z'] at hlt
        exact Nat.lt_irrefl _ hlt
  have loop : ∀ s₄ : Shared, s₄ = { s with heap := h₁, toks := s.toks + ([] : List (Str × Value)).length } →
      codeAny (model X.prog X.w) X.A (.compLoop (.ListComp elt [⟨tg, iter, ifs, 0⟩] scope pos) 0 (.ref it) (.ref s.heap.objs.size) (compEnvC scope cl C X.env)) (RR (.ref s.heap.objs.size) C) s₄ := by
    rintro s₄ rfl
    refine compLoop_own (fun n s' => ∃ i ys its k H', Inv (cxComp X scope cl (tn ++ cn) C (s.heap.objs.size :: fp) s3 H) (X.pn ++ pins ++ [(s.heap.objs.size, { cls := .type "list", data := .seq (List.toArray its) k })]) (List.replicate tn.length none ++ capσ σ caps) H' s' ∧
      tnn i s'.heap ∧ (∀ b ∈ fp, H' b = none) ∧ Vals ys its ∧ W i n ys H') ?_ m0 ⟨0, [], [], 0, H, I1, st1, hfp0, .nil, w0⟩
    rintro n s5 ⟨i, ys, its, k, H5, I5, st5, fr5, rv5, w5⟩
    rcases hW i n ys H5 w5 with ⟨stop, hz, f5⟩ | ⟨go, Nw, hNw, step⟩
    · refine wpAny_mono (T.done (cxComp X scope cl (tn ++ cn) C (s.heap.objs.size :: fp) s3 H) rfl rfl rfl hc i _ s5 _ H5 (fun _ _ => False) I5 (stat fr5) st5 stop) (fun r s6 h6 => ?_) fun _ _ z => z
      obtain ⟨hr, I6⟩ := h6
      subst hr
      obtain ⟨J1, J2, J3, m, J4⟩ := comp_fin I hf hfp (by omega) hE hos I6 rv5 hz
      exact hRR _ _ _ _ _ m J2 f5 J1 J3 J4
    · refine wpAny_mono (T.item (cxComp X scope cl (tn ++ cn) C (s.heap.objs.size :: fp) s3 H) rfl rfl rfl hc i _ s5 _ H5 (fun _ _ => False) I5 (stat fr5) st5 go) (fun r s6 h6 => ?_) fun _ _ z => z
      obtain ⟨u, hr, h6⟩ := h6
      subst hr
      refine wpAny_mono h6 (fun _ s7 h7 => ?_) fun _ _ z => z
      obtain ⟨x, H7, I7, r7, y7, st7, fr7⟩ := h7
      have I7' := I7.pinned (stat fr7) (T.obj _ _ st7)
      refine wpAny_mono (hg C (s.heap.objs.size :: fp) s3 H _ s7 _ H7 x u _ I7' r7 (step x H7 y7)) (fun _ s8 h8 => ?_) fun _ _ z => z
      obtain ⟨σ8, H8, I8, ⟨hl8, hk8⟩, q8⟩ := h8
      have back : ∀ {H9 : Hp} {s9 : Shared}, Inv (cxComp X scope cl (tn ++ cn) C (s.heap.objs.size :: fp) s3 H) (X.pn ++ pins ++ [(s.heap.objs.size, { cls := .type "list", data := .seq (List.toArray its) k })] ++ pinsAt fp s7.heap) σ8 H9 s9 →
          tnn (i + 1) s9.heap ∧ (∀ b ∈ fp, H9 b = none) := fun {H9 s9} I9 => by
        refine ⟨T.keep _ _ _ st7 fun b hb o e => (I9.pin (b, o) (List.mem_append_right _ (List.mem_append_right _ (mem_pinsAt hb e)))).1, fun b hb => ?_⟩
        obtain ⟨o, e, d⟩ := T.obj _ _ st7 b hb
        exact (I9.pin (b, o) (List.mem_append_right _ (List.mem_append_right _ (mem_pinsAt hb e)))).2.1
      refine wpAny_mono (ht C (s.heap.objs.size :: fp) s3 H _ s8 σ8 H8 _ I8 q8) (fun ok s9 h9 => ?_) fun _ _ z => z
      obtain ⟨H9, I9, q9⟩ := h9
      cases ok with
      | false =>
        rw [if_neg (by decide)] at q9 ⊢
        obtain ⟨m', hm, w9⟩ := hNw _ _ q9
        obtain ⟨b1, b2⟩ := back I9
        exact ⟨m', hm, i + 1, ys, its, k, H9, I9.unpinned.weak hl8.symm hk8, b1, b2, rv5, w9⟩
      | true =>
        rw [if_pos rfl] at q9 ⊢
        refine wpAny_mono (he C (s.heap.objs.size :: fp) s3 H _ s9 σ8 H9 _ I9 q9) (fun yv s10 h10 => ?_) fun _ _ z => z
        obtain ⟨y, H10, I10, r10, hz10, n10⟩ := h10
        obtain ⟨m', hm, w10⟩ := hNw _ _ n10
        obtain ⟨b1, b2⟩ := back I10
        have pD := I10.pin (s.heap.objs.size, { cls := .type "list", data := .seq (List.toArray its) k }) (List.mem_append_right _ (List.mem_append_left _ (List.mem_append_right _ (List.mem_singleton.mpr rfl))))
        refine wpAny_list_append_plain (hsz := by rw [List.size_toArray, ← rv5.length]; exact hz10) ⟨k, pD.1⟩ fun h11 hl11 hs11 => ?_
        obtain ⟨k', e11⟩ := hl11
        have I10' : Inv (cxComp X scope cl (tn ++ cn) C (s.heap.objs.size :: fp) s3 H) (X.pn ++ pins) σ8 H10 s10 := I10.pins_of fun p hp => I10.pin p (List.mem_append_right _ (List.mem_append_left _ (List.mem_append_left _ hp)))
        have I11 := I10'.turned (t' := s10.toks) (h' := h11) (it := s.heap.objs.size) (fun b o hb e => hs11.extBut b o hb e) pD.2.1 pD.2.2.1 (.inl List.mem_cons_self) (fun x c e z => ?_) (fun p hp z => ?_)
        · refine ⟨m', hm, i + 1, ys ++ [y], its ++ [yv], k', H10, ?_, ?_, b2, rv5.append (.cons r10 .nil), w10⟩
          · refine (I11.pins_of fun p hp => ?_).weak hl8.symm hk8
            rcases List.mem_append.mp hp with hp | hp
            · exact I11.pin p (List.mem_append_right _ hp)
            · have e := List.mem_singleton.mp hp
              subst e
              refine ⟨?_, pD.2.1, pD.2.2.1, pD.2.2.2.1, fun v z => by cases z⟩
              show h11.get? s.heap.objs.size = _
              rw [e11]
              simp
          · refine T.keep _ _ _ b1 fun b hb o e => hs11.extBut b o (fun z => ?_) e
            have h1 := hfp b hb
            rw [z] at h1
            exact Nat.lt_irrefl _ h1
        · obtain ⟨v, q⟩ := I.cell x c (hcl x c e)
          exact absurd q.lt (by rw [z]; exact Nat.lt_irrefl _)
        · have hp : p ∈ X.pn ++ pins := hp
          exact absurd (Heap.lt_size (I.pin p hp).1) (by rw [z]; exact Nat.lt_irrefl _)
  exact codeAny_compStart_list (loop _ rfl) (T.self X.A 0 _ _ _ st1 (loop _ rfl))

/-- [elt for tg in iter if ..]: the reading -/
def tComp (wi : TI) (k : Nat) (caps : List Nat) (g : TG) (tt : TT) (te : TE) : TE := fun σ H Q => wi σ H fun J H1 => ∃ W : Nat → Nat → List V → Hp → Prop, (∃ m, W 0 m [] H1) ∧
  CompW J g tt te (List.replicate k none ++ capσ σ caps) W fun ys H' => ∀ D, H' D = none → Q (.ref D) (upd H' D (.lst ys))
theorem pe_comp {tg iter elt : Expr} {ifs : List Expr} {pos : Pos} {wi : TI} {g : TG} {tt : TT} {te : TE} (S : CompScope X scope tn cn caps) (hc : X.calm = true) (hi : PI X tg iter wi)
    (hg : ∀ cl C ex s₀ H₀, PG (cxComp X scope cl (tn ++ cn) C ex s₀ H₀) tg g) (ht : ∀ cl C ex s₀ H₀, PTs (cxComp X scope cl (tn ++ cn) C ex s₀ H₀) ifs tt) (he : ∀ cl C ex s₀ H₀, PE (cxComp X scope cl (tn ++ cn) C ex s₀ H₀) elt te)
    (hs : ∀ x, foldedSetIterable iter X.env x = pure x := by intro _; rfl) : PE X (.ListComp elt [⟨tg, iter, ifs, 0⟩] scope pos) (tComp wi tn.length caps g tt te) := by
  intro pins s σ H Q I h
  obtain ⟨cl, hcl0, hcl, hcl2⟩ := closureFor_some (scope := scope) (env := X.env) fun x hx hf => I.ok.has x.1 (S.caught x hx hf)
  rw [eval_ListComp]
  refine wpAny_comprehension_free (use := none) rfl hs hcl0 S.kind S.names (thn (hi pins s σ H _ I h) fun v s1 h1 => thn h1 fun itv s2 h2 => ?_)
  obtain ⟨it, fp, tnn, J, H2, e, I2, T, st2, f2, W, ⟨m0, w0⟩, turn⟩ := h2
  subst e
  refine comp_block (RR := fun acc C => compPost (model X.prog X.w) X.A X.xe none (EP X pins σ Q) acc C) S hc hcl hcl2 (hg cl) (ht cl) (he cl) I2 T st2 f2 turn w0 ?_
  intro D C s' H' ys m hD f I' fC hn
  refine ⟨m, hn, fun h' hs' => ?_⟩
  have I'' := I'.turned (t' := s'.toks) (h' := h') (it := C) (fun b o hb e => hs'.extBut b o hb e) fC.1 fC.2.1 fC.2.2.2.1 fC.2.2.2.2.1 fC.2.2.2.2.2
  exact ⟨.ref D, _, I'', rfl, f D hD⟩

/-- y = [elt for tg in iter if ..], y a plain local -/
def sComp (i : Nat) (wi : TI) (k : Nat) (caps : List Nat) (g : TG) (tt : TT) (te : TE) : TS := fun D σ H => wi σ H fun J H1 => ∃ W : Nat → Nat → List V → Hp → Prop, (∃ m, W 0 m [] H1) ∧
  CompW J g tt te (List.replicate k none ++ capσ σ caps) W fun ys H' => ∀ p, H' p = none → D.nx (σ.set i (some (.ref p))) (upd H' p (.lst ys))
theorem ps_comp {tg iter elt : Expr} {ifs : List Expr} {pos spos py : Pos} {y : Str} {i : Nat} {wi : TI} {g : TG} {tt : TT} {te : TE} (S : CompScope X scope tn cn caps) (hc : X.calm = true) (hN : X.N.Nodup) (hy : X.N[i]? = some y) (hl : X.env.scope.names.lookup y = some .local)
    (hi : PI X tg iter wi)
    (hg : ∀ cl C ex s₀ H₀, PG (cxComp X scope cl (tn ++ cn) C ex s₀ H₀) tg g) (ht : ∀ cl C ex s₀ H₀, PTs (cxComp X scope cl (tn ++ cn) C ex s₀ H₀) ifs tt) (he : ∀ cl C ex s₀ H₀, PE (cxComp X scope cl (tn ++ cn) C ex s₀ H₀) elt te)
    (hsw : swapsWith (.ListComp elt [⟨tg, iter, ifs, 0⟩] scope pos) (some (.Name y py)) spos.line X.env = pure true)
    (hs : ∀ x, foldedSetIterable iter X.env x = pure x := by intro _; rfl) : PS X (.Assign [.Name y py] (.ListComp elt [⟨tg, iter, ifs, 0⟩] scope pos) spos) (sComp i wi tn.length caps g tt te) := by
  intro pins s σ H D I h
  obtain ⟨cl, hcl0, hcl, hcl2⟩ := closureFor_some (scope := scope) (env := X.env) fun x hx hf => I.ok.has x.1 (S.caught x hx hf)
  rw [exec_Assign_Name_used _ _ _ _ hsw]
  refine wpAny_bind (wpAny_standAt (wpAny_bind ?_))
  show wpAny _ X.A (do let _ ← comprehension (.ListComp elt [⟨tg, iter, ifs, 0⟩] scope pos) scope X.env _ (newList []) false (eval iter X.env) (some (assign (.Name y py) X.env))) _ _ s
  refine wpAny_bind (wpAny_mono (wpAny_comprehension_free (use := some (assign (.Name y py) X.env)) (Q := fun _ s' => SP X pins D .next s') rfl hs hcl0 S.kind S.names
    (thn (hi pins s σ H _ I h) fun v s1 h1 => thn h1 fun itv s2 h2 => ?_)) (fun _ s' hq => wpAny_pure (wpAny_pure hq)) fun _ _ e => e)
  obtain ⟨it, fp, tnn, J, H2, e, I2, T, st2, f2, W, ⟨m0, w0⟩, turn⟩ := h2
  subst e
  refine comp_block (RR := fun acc C => compPost (model X.prog X.w) X.A X.xe (some (assign (.Name y py) X.env)) (fun _ s' => SP X pins D .next s') acc C) S hc hcl hcl2 (hg cl) (ht cl) (he cl) I2 T st2 f2 turn w0 ?_
  intro p C s' H' ys m hD f I' fC hn
  show wpAny _ X.A (assign (.Name y py) X.env (.ref p)) _ _ _
  refine wpAny_assign_Name (store_ok2 (v := .ref p) I' hN hy (.inl hl) rfl (fun s4 I4 ⟨a, hs4, ha⟩ => ?_) (.inr hl))
  have hCa : C ≠ a := by
    rcases ha with ha | ha
    · rw [ha]; exact fC.2.1
    · exact fun z => fC.2.2.2.2.1 y a ha z.symm
  refine ⟨m, hn.sameBut hs4 hCa, fun h' hs' => ?_⟩
  have I'' := I4.turned (t' := s4.toks) (h' := h') (it := C) (fun b o hb e => hs'.extBut b o hb e) fC.1 fC.2.1 fC.2.2.2.1 fC.2.2.2.2.1 fC.2.2.2.2.2
  exact ⟨_, _, I'', f p hD⟩
end

/-! ### the forms one uses -/
/-- the iterator goes over xs, at the heap H, which stays -/
structure SrcIs (J : It) (H : Hp) (xs : List V) : Prop where
  go : ∀ i, i < xs.length → J.go i H
  yld : ∀ i x H', i < xs.length → J.yld i H x H' → H' = H ∧ xs[i]? = some x
  stop : J.stop xs.length H
theorem src_list {K : PySem.W.Frag} {H : Hp} {a : Addr} {xs : List V} (h : SqL K H a xs) : SrcIs (Itl K a) H xs :=
  ⟨fun i hi => ⟨xs, xs[i], h, by simp [hi]⟩, fun i x H' _ y => ⟨y.1, y.2 xs h⟩, ⟨xs, h, Nat.le_refl _⟩⟩
theorem src_tup {K : PySem.W.Frag} {H : Hp} {a : Addr} {xs : List V} (h : SqT K H a xs) : SrcIs (Itt K a) H xs :=
  ⟨fun i hi => ⟨xs, xs[i], h, by simp [hi]⟩, fun i x H' _ y => ⟨y.1, y.2 xs h⟩, ⟨xs, h, Nat.le_refl _⟩⟩
theorem src_range {H : Hp} {lo : Int} {n : Nat} : SrcIs (Itr lo n) H ((List.range n).map fun i => V.int (lo + (i : Nat))) :=
  ⟨fun i hi => (show i < n by simpa using hi), fun i x H' hi y => ⟨y.1, by
    have hi' : i < n := by simpa using hi
    have e : x = .int (lo + (i : Nat)) := y.2
    rw [e, List.getElem?_map, List.getElem?_range hi']; rfl⟩, by show n ≤ _; simp⟩

theorem keeps_name {x : V} {cs : St} : ((some x :: cs : St).length = (none :: cs : St).length) ∧ ∀ (j : Nat) (v : V), (none :: cs : St)[j]? = some (some v) → (some x :: cs : St)[j]? = some (some v) := by
  refine ⟨by simp, fun j v h => ?_⟩
  cases j with
  | zero => simp at h
  | succ j => simpa using h

/-- a comprehension over a name that leaves the heap as it is: a filter and a map -/
theorem comp_pure {J : It} {H : Hp} {xs : List V} {tt : TT} {te : TE} {cs : St} {F : List V → Hp → Prop} (S : SrcIs J H xs) (p : V → Bool) (f : V → V) (htt : ∀ x ∈ xs, ∀ Q : Bool → Hp → Prop, Q (p x) H → tt (some x :: cs) H Q)
    (hte : ∀ x ∈ xs, p x = true → ∀ Q : VK, Q (f x) H → te (some x :: cs) H Q) (hn : xs.length ≤ sizeLine) (hF : F ((xs.filter p).map f) H) :
    ∃ W : Nat → Nat → List V → Hp → Prop, (∃ m, W 0 m [] H) ∧ CompW J (gName 0) tt te (none :: cs) W F := by
  refine ⟨fun i m ys H' => m = xs.length - i ∧ i ≤ xs.length ∧ H' = H ∧ ys = ((xs.take i).filter p).map f, ⟨xs.length, by simp, Nat.zero_le _, rfl, by simp⟩, ?_⟩
  rintro i m ys H' ⟨rfl, hi, rfl, rfl⟩
  have hlen : (((xs.take i).filter p).map f).length ≤ sizeLine := by
    rw [List.length_map]
    refine Nat.le_trans (List.length_filter_le _ _) ?_
    rw [List.length_take]
    omega
  by_cases hlt : i < xs.length
  · refine .inr ⟨S.go i hlt, fun ys' H'' => H'' = H' ∧ ys' = ((xs.take (i + 1)).filter p).map f, fun ys' H'' h => ⟨xs.length - (i + 1), by omega, rfl, hlt, h.1, h.2⟩, fun x H'' y => ?_⟩
    obtain ⟨rfl, hx⟩ := S.yld i x H'' hlt y
    have hm : x ∈ xs := List.mem_of_getElem? hx
    have htk : xs.take (i + 1) = xs.take i ++ [x] := by
      rw [List.take_add_one, hx]; rfl
    show _ ∧ _
    refine ⟨keeps_name, ?_⟩
    refine htt x hm _ ?_
    cases hp : p x with
    | true =>
      rw [if_pos rfl]
      refine hte x hm hp _ ⟨hlen, rfl, ?_⟩
      rw [htk, List.filter_append, List.map_append]
      simp [hp]
    | false =>
      rw [if_neg (by decide)]
      refine ⟨rfl, ?_⟩
      rw [htk, List.filter_append, List.map_append]
      simp [hp]
  · have e : i = xs.length := by omega
    subst e
    refine .inl ⟨S.stop, hlen, ?_⟩
    rw [List.take_length]
    exact hF
/-- .. by an invariant of what is listed and of the heap -/
theorem comp_by {J : It} {H : Hp} {n : Nat} {x : Nat → V} {tt : TT} {te : TE} {cs : St} {F : List V → Hp → Prop} (Pv : Nat → List V → Hp → Prop) (h0 : Pv 0 [] H)
    (hgo : ∀ i ys H, i < n → Pv i ys H → J.go i H ∧ ∀ y H', J.yld i H y H' → H' = H ∧ y = x i) (hstop : ∀ ys H, Pv n ys H → J.stop n H)
    (hs : ∀ i ys H, i < n → Pv i ys H → tt (some (x i) :: cs) H fun b H3 => if b = true then te (some (x i) :: cs) H3 fun y H4 => ys.length ≤ sizeLine ∧ Pv (i + 1) (ys ++ [y]) H4 else Pv (i + 1) ys H3)
    (hd : ∀ ys H, Pv n ys H → ys.length ≤ sizeLine ∧ F ys H) :
    ∃ W : Nat → Nat → List V → Hp → Prop, (∃ m, W 0 m [] H) ∧ CompW J (gName 0) tt te (none :: cs) W F := by
  refine ⟨fun i m ys H => m = n - i ∧ i ≤ n ∧ Pv i ys H, ⟨n, by simp, Nat.zero_le _, h0⟩, ?_⟩
  rintro i m ys H ⟨rfl, hi, p⟩
  by_cases hlt : i < n
  · obtain ⟨g1, g2⟩ := hgo i ys H hlt p
    refine .inr ⟨g1, Pv (i + 1), fun ys' H' h => ⟨n - (i + 1), by omega, rfl, hlt, h⟩, fun y H' yl => ?_⟩
    obtain ⟨rfl, rfl⟩ := g2 y H' yl
    exact ⟨keeps_name, hs i ys _ hlt p⟩
  · have e : i = n := by omega
    subst e
    obtain ⟨h1, h2⟩ := hd ys H p
    exact .inl ⟨hstop ys H p, h1, h2⟩

theorem cxK {CX : CXT} {P : Program} {w : World} {K : PySem.W.Frag} {mg : Str → Option Value} {base : Heap} {N : List Str} {qual : Str} {scope : Scope} {f : Addr} {cd : Value} {A : Around} {outer : List Env} {s : Shared} {H : Hp} {E : XK} : (cxOf CX P w K mg base N qual scope f cd A outer s H E).K = K := rfl
theorem cxA {CX : CXT} {P : Program} {w : World} {K : PySem.W.Frag} {mg : Str → Option Value} {base : Heap} {N : List Str} {qual : Str} {scope : Scope} {f : Addr} {cd : Value} {A : Around} {outer : List Env} {s : Shared} {H : Hp} {E : XK} : (cxOf CX P w K mg base N qual scope f cd A outer s H E).A = A.deeper (envOfC qual scope s.heap.objs.size f cd) := rfl
theorem cxKc {X : Cx} {scope : Scope} {cl : List (Str × Addr)} {N : List Str} {C : Addr} {ex : List Addr} {s₀ : Shared} {H₀ : Hp} : (cxComp X scope cl N C ex s₀ H₀).K = X.K := rfl
theorem cxAc {X : Cx} {scope : Scope} {cl : List (Str × Addr)} {N : List Str} {C : Addr} {ex : List Addr} {s₀ : Shared} {H₀ : Hp} : (cxComp X scope cl N C ex s₀ H₀).A = X.A := rfl
end L2

set_option Elab.async false
set_option linter.all false
set_option maxRecDepth 100000
namespace L2
open PySem PySem.Spec PyProof.Rows

/-! ### texts -/
def chr1 (c : Nat) : V := .str ⟨#[c]⟩
def Its (x : Str) : It := ⟨fun i _ => i < x.cps.size, fun i H v H' => H' = H ∧ ∃ c, x.cps[i]? = some c ∧ v = chr1 c, fun i _ => x.cps.size ≤ i⟩
theorem turn_str {P : Program} {w : World} {K : PySem.W.Frag} {tg : Expr} (it : Addr) (x : Str) (t : Tok) {ty : String} (hty : ty = "str_ascii_iterator" ∨ ty = "str_iterator") : Turn P w K tg (Its x) [it] it (fun i h => h.IsStrIter it ty x t i) where
  mem := by simp
  obj := fun i h st b hb => by
    have e : b = it := by simpa using hb
    subst e
    obtain ⟨o, e, c, d⟩ := st
    exact ⟨o, e, fun v z => by rw [d] at z; cases z⟩
  keep := fun i h h' st k => let ⟨o, e, r⟩ := st; ⟨o, k it (by simp) o e, r⟩
  item := by
    intro X hP hw hK hc i pins s σ H E I hf st hg
    subst hP hw hK
    have hi : i < x.cps.size := hg
    obtain ⟨f0, f1, f2, f3, f4, f5⟩ := hf it (by simp)
    have hx : x.cps[i]? = some x.cps[i] := by simp [hi]
    have fin : ∀ h', h'.IsStrIter it ty x t (i + 1) → Heap.SameBut it s.heap h' → ∃ u, some (Value.str ⟨#[x.cps[i]]⟩ s.toks) = some u ∧
        wpAny (model X.prog X.w) X.A (letOwnedTupleGo tg (.ref it) u) (fun _ s2 => ∃ y H', Inv X pins σ H' s2 ∧ RelV y u ∧ (Its x).yld i H y H' ∧ s2.heap.IsStrIter it ty x t (i + 1) ∧ ∀ b ∈ [it], H' b = none) E { s with heap := h', toks := s.toks + 1 } := fun h' st' sb => by
      have I1 : Inv X pins σ H { s with heap := h', toks := s.toks + 1 } := I.turned (fun b o hb e => (sb.2 b hb).trans e) f0 f1 f3 f4 f5
      obtain ⟨o, e, c, d⟩ := id st'
      refine ⟨_, rfl, go_of (s := { s with heap := h', toks := s.toks + 1 }) e c d ?_ ⟨chr1 x.cps[i], H, I1, ⟨_, rfl⟩, ⟨rfl, _, hx, rfl⟩, st', fun b hb => (hf b hb).1⟩⟩
      rcases hty with z | z <;> (subst z; decide)
    rcases hty with z | z
    · subst z; exact wpAny_pyNext_ascii_item st hx fin
    · subst z; exact wpAny_pyNext_wide_item st hx fin
  done := by
    intro X hP hw hK hc i pins s σ H E I hf st hg
    subst hP hw hK
    have hi : x.cps.size ≤ i := hg
    obtain ⟨f0, f1, f2, f3, f4, f5⟩ := hf it (by simp)
    have hx : x.cps[i]? = none := by simp [hi]
    have fin : ∀ h', Heap.ExtBut it s.heap h' → (none : Option Value) = none ∧ Inv X pins σ H { s with heap := h' } := fun h' eb => ⟨rfl, I.turned (t' := s.toks) (fun b o hb e => eb b o hb e) f0 f1 f3 f4 f5⟩
    rcases hty with z | z
    · subst z; exact wpAny_pyNext_ascii_end (I.ok.hd hc) st hx fin
    · subst z; exact wpAny_pyNext_wide_end (I.ok.hd hc) st hx fin
  self := fun _ _ _ _ _ st h => by
    rcases hty with z | z
    · subst z; exact wpAny_pyIter_striter_ascii st h
    · subst z; exact wpAny_pyIter_striter_wide st h
def iStr (tl : TE) : TI := fun σ H R => tl σ H fun v H1 => ∃ x, v = .str x ∧ R (Its x) H1
theorem pi_str {X : Cx} {tg l : Expr} {tl : TE} (hl : PE X l tl) : PI X tg l (iStr tl) := by
  intro pins s σ H R I h
  refine thn (hl pins s σ H _ I h) fun v s1 ⟨y, H1, I1, r1, q1⟩ => ?_
  obtain ⟨x, e, q⟩ := q1
  subst e
  obtain ⟨t, rfl⟩ := r1
  have fin : ∀ ty, (ty = "str_ascii_iterator" ∨ ty = "str_iterator") → PIE X pins σ tg R (.ref s1.heap.objs.size) { s1 with heap := s1.heap.push { cls := .type ty, data := .fields #[.str x t, .int 0 0] } } := fun ty hty => by
    refine ⟨s1.heap.objs.size, [s1.heap.objs.size], _, _, H1, rfl, I1.kept (t' := s1.toks) fun b o e => Heap.get?_push_of_some _ e, turn_str _ x t hty, ⟨_, Heap.get?_push_size _ rfl, rfl, rfl⟩, fun b hb => ?_, q⟩
    have e : b = s1.heap.objs.size := by simpa using hb
    subst e
    exact I1.fpOk (Nat.le_refl _) (I1.hok.fresh (Nat.le_refl _))
  cases ha : x.cps.all (· < 128)
  · exact wpAny_pyIter_wide ha (fin _ (.inr rfl))
  · exact wpAny_pyIter_ascii ha (fin _ (.inl rfl))
theorem src_str {H : Hp} {x : Str} : SrcIs (Its x) H (x.cps.toList.map chr1) :=
  ⟨fun i hi => (show i < x.cps.size by simpa using hi), fun i v H' hi y => ⟨y.1, by
    obtain ⟨c, e1, e2⟩ := y.2
    rw [e2, List.getElem?_map, Array.getElem?_toList, e1]; rfl⟩, by show x.cps.size ≤ _; simp⟩
/-- for c in a text -/
theorem for_str {x : Str} {g : TG} {tb : TS} {D : Ends} {σ : St} {H : Hp} (Pv : Nat → St → Hp → Prop) (h0 : Pv 0 σ H)
    (hs : ∀ i c σ H, x.cps.toList[i]? = some c → Pv i σ H → g (chr1 c) σ H fun σ2 H2 => tb { D with nx := Pv (i + 1), ct := Pv (i + 1), bk := D.nx } σ2 H2) (hd : ∀ σ H, Pv x.cps.size σ H → D.nx σ H) :
    ∃ W : Nat → Nat → St → Hp → Prop, (∃ m, W 0 m σ H) ∧ ∀ i m σ H, W i m σ H →
      ((Its x).stop i H ∧ D.nx σ H) ∨ ((Its x).go i H ∧ ∃ N : St → Hp → Prop, (∀ σ' H', N σ' H' → ∃ m', m' < m ∧ W (i + 1) m' σ' H') ∧ ∀ v H', (Its x).yld i H v H' → g v σ H' fun σ2 H2 => tb { D with nx := N, ct := N, bk := D.nx } σ2 H2) := by
  refine ⟨fun i m σ H => m = x.cps.size - i ∧ i ≤ x.cps.size ∧ Pv i σ H, ⟨x.cps.size, by simp, Nat.zero_le _, h0⟩, ?_⟩
  rintro i m σ H ⟨rfl, hi, p⟩
  by_cases hlt : i < x.cps.size
  · refine .inr ⟨hlt, Pv (i + 1), fun σ' H' p' => ⟨x.cps.size - (i + 1), by omega, rfl, hlt, p'⟩, fun v H' y => ?_⟩
    obtain ⟨e, c, e1, e2⟩ := y
    subst e e2
    exact hs i c σ _ (by rw [Array.getElem?_toList]; exact e1) p
  · have e : i = x.cps.size := by omega
    subst e
    exact .inl ⟨Nat.le_refl _, hd σ H p⟩

section
variable {X : Cx}
/-- one sign in a text -/
theorem op_in_chr : OpR X (compareOp .In) (fun x y H Q => ∃ c j, x = chr1 c ∧ y = .str j ∧ Q (.bl (decide (c ∈ j.cps.toList))) H) := by
  intro pins s σ H x y v u Q I rx ry h
  obtain ⟨c, j, rfl, rfl, q⟩ := h
  refine op_in_str pins s σ H _ _ v u Q I rx ry ⟨_, j, rfl, rfl, ?_⟩
  rw [PySem.StrLaws.found_one]
  exact q
theorem op_notin_chr : OpR X (compareOp .NotIn) (fun x y H Q => ∃ c j, x = chr1 c ∧ y = .str j ∧ Q (.bl (!decide (c ∈ j.cps.toList))) H) := by
  intro pins s σ H x y v u Q I rx ry h
  obtain ⟨c, j, rfl, rfl, q⟩ := h
  refine op_notin_str pins s σ H _ _ v u Q I rx ry ⟨_, j, rfl, rfl, ?_⟩
  rw [PySem.StrLaws.found_one]
  exact q
/-- text * int -/
theorem op_mul_str : OpR X (binaryOp .Mult) (fun x y H Q => ∃ z n, x = .str z ∧ y = .int n ∧ MulOk z n ∧ Q (.str (Txt.mul z n)) H) := by
  intro pins s σ H x y v u Q I rx ry h
  obtain ⟨z, n, rfl, rfl, hok, q⟩ := h
  obtain ⟨t, rfl⟩ := rx
  obtain ⟨t', rfl⟩ := ry
  exact SB.mul hok fun t'' k => ⟨.str (Txt.mul z n), H, I.tok _, ⟨_, rfl⟩, q⟩
/-- is, is not of two bools -/
theorem op_isB : OpR X (compareOp .Is) (fun x y H Q => ∃ a b, x = .bl a ∧ y = .bl b ∧ Q (.bl (a == b)) H) := by
  intro pins s σ H x y v u Q I rx ry h
  obtain ⟨a, b, rfl, rfl, q⟩ := h
  cases rx
  cases ry
  exact is_bool (fin_bl I q rfl)
theorem op_isnotB : OpR X (compareOp .IsNot) (fun x y H Q => ∃ a b, x = .bl a ∧ y = .bl b ∧ Q (.bl (!(a == b))) H) := by
  intro pins s σ H x y v u Q I rx ry h
  obtain ⟨a, b, rfl, rfl, q⟩ := h
  cases rx
  cases ry
  exact isnot_bool (fin_bl I q rfl)
/-- text[lo:hi] -/
def tSlS (te : TE) (tl th : TO) : TE := fun σ H Q => te σ H fun x H1 => tl σ H1 fun l H2 => th σ H2 fun u H3 => ∃ z, x = .str z ∧ z.length ≤ sizeLine ∧ Q (.str (Txt.slice z l u)) H3
theorem pe_sliceS {e : Expr} {lo hi : Option Expr} {te : TE} {tl th : TO} {p2 pos : Pos} (he : PE X e te) (hl : PO X lo tl) (hu : PO X hi th) : PE X (.Subscript e (.Slice lo hi none p2) pos) (tSlS te tl th) := by
  intro pins s σ H Q I h
  refine Subscript_ (thn (he pins s σ H _ I h) fun v s1 ⟨x, H1, I1, r1, q1⟩ => ?_)
  refine wpAny_Slice (thn (hl pins s1 σ H1 _ I1 q1) fun vl s2 ⟨l, H2, I2, pl, q2⟩ => thn (hu pins s2 σ H2 _ I2 q2) fun vu s3 ⟨u, H3, I3, pu, q3⟩ => ?_)
  rw [evalPart_none]
  refine wpAny_pure ?_
  obtain ⟨z, rfl, hz, q⟩ := q3
  obtain ⟨t, rfl⟩ := r1
  show wpAny (model X.prog X.w) X.A (subscriptTail e (.Slice lo hi none p2) (.str z t) (.ref s3.heap.objs.size)) (EP X pins σ Q) X.xe { s3 with heap := s3.heap.push { cls := .type "slice", data := .fields #[vl, vu, .none] } }
  have hk : KeptH fun h' => ∀ b o, s3.heap.get? b = some o → h'.get? b = some o := fun h ob p b o e => Heap.get?_push_of_some _ (p b o e)
  have fin : ∀ h' t' k, (∀ b o, s3.heap.get? b = some o → h'.get? b = some o) → EP X pins σ Q (.str (Txt.slice z l u) t') { s3 with heap := h', toks := k } := fun h' t' k kp => ⟨.str (Txt.slice z l u), H3, I3.kept kp, ⟨t', rfl⟩, q⟩
  have hI : ItemOn (model X.prog X.w) X.A X.xe (.str z t) (.ref s3.heap.objs.size) (EP X pins σ Q) { s3 with heap := s3.heap.push { cls := .type "slice", data := .fields #[vl, vu, .none] } } := by
    cases pl with
    | none =>
      cases pu with
      | none => exact SBH.sliceItem_nn hk (fun b o e => e) fin hz
      | int => exact SBH.sliceItem_ns hk (fun b o e => e) fin hz
    | int =>
      cases pu with
      | none => exact SBH.sliceItem_sn hk (fun b o e => e) fin hz
      | int => exact SBH.sliceItem_ss hk (fun b o e => e) fin hz
  obtain ⟨T, id, hlk, hT, hg⟩ := hI
  exact tail_any (ops := [.ref s3.heap.objs.size, .str z t]) hT hlk hg (by with_unfolding_all rfl)
/-- all(a list of truths) -/
theorem all_range (bs : List Bool) : (List.range bs.length).all (fun i => bs.getD i false) = bs.all id := by
  rw [Bool.eq_iff_iff, List.all_eq_true, List.all_eq_true]
  constructor
  · intro h b hb
    obtain ⟨i, hi, e⟩ := List.mem_iff_getElem.mp hb
    have q := h i (List.mem_range.mpr hi)
    simpa [List.getD, hi, e] using q
  · intro h i hi
    have hi' := List.mem_range.mp hi
    have q := h bs[i] (List.getElem_mem hi')
    simpa [List.getD, hi'] using q
theorem call_all_list : CallR X (.builtin "all") (fun xs H Q => ∃ (a : Addr) (bs : List Bool), xs = [.ref a] ∧ X.A.handled = none ∧ SqL X.K H a (bs.map V.bl) ∧ Q (.bl (bs.all id)) H) := by
  intro pins s σ H xs us Q I r h
  obtain ⟨a, bs, rfl, hh, hq, q⟩ := h
  obtain ⟨u, rfl, ru⟩ := vals1 r
  cases ru
  obtain ⟨its, rv, p, hz⟩ := I.list hq
  have hl := rv.length
  rw [List.length_map] at hl
  obtain ⟨o, ho, _⟩ := id p.isList
  have hlt := Heap.lt_size ho
  refine call_all_walk (wpAny_pyIter_list p.isList ?_)
  refine ⟨s.heap.objs.size, _, _, _, _, _, fun i => bs.getD i false, rfl, Walks.list (A := X.A.in1) hh s.heap.objs.size a (Nat.ne_of_lt hlt) its.toArray, ⟨⟨_, Heap.get?_push_size _ rfl, rfl, rfl⟩, p.isList.at fun o e => Heap.get?_push_of_some _ e⟩, ?_, fun h' tk hk => ?_⟩
  · intro i v s' Q' E' hv hQ
    have hv : its.toArray[i]? = some v := hv
    have hi : its[i]? = some v := by simpa using hv
    have hib : i < bs.length := by rw [hl]; exact (List.getElem?_eq_some_iff.mp hi).1
    obtain ⟨u, hu, ru⟩ := rv.get (i := i) (x := V.bl bs[i]) (by simp [hib])
    rw [hi] at hu
    cases hu
    cases ru
    refine wpAny_truthy_bool ?_
    have e : bs.getD i false = bs[i] := by simp [List.getD, hib]
    rw [← e]
    exact hQ
  · rw [List.size_toArray, ← hl, all_range]
    refine ⟨.bl (bs.all id), H, I.kept fun b o e => ?_, rfl, q⟩
    exact hk b o (fun z => Nat.lt_irrefl _ (by have := Heap.lt_size e; rw [List.mem_singleton.mp z] at this; exact this)) (Heap.get?_push_of_some _ e)
/-- text.index(sign), which is there -/
def figs : Str := "0123456789"
def rIndex : V → List V → Hp → VK → Prop := fun x vs H Q => ∃ c, x = .str figs ∧ vs = [chr1 c] ∧ 48 ≤ c ∧ c ≤ 57 ∧ Q (.int ((c - 48 : Nat) : Int)) H
theorem occ_fig {c : Nat} (h1 : 48 ≤ c) (h2 : c ≤ 57) : Builtin.Str.occurrences figs ⟨#[c]⟩ 0 figs.length 1 = [c - 48] := by
  have h : c = 48 ∨ c = 49 ∨ c = 50 ∨ c = 51 ∨ c = 52 ∨ c = 53 ∨ c = 54 ∨ c = 55 ∨ c = 56 ∨ c = 57 := by omega
  rcases h with rfl | rfl | rfl | rfl | rfl | rfl | rfl | rfl | rfl | rfl <;> decide +kernel
theorem mt_index : MtR X "str.index" rIndex := by
  intro pins s σ H x vs v us Q I rx rv h
  obtain ⟨c, rfl, rfl, h1, h2, q⟩ := h
  obtain ⟨t, rfl⟩ := rx
  obtain ⟨u, rfl, ru⟩ := rv.one
  obtain ⟨t', rfl⟩ := ru
  exact call_gives F.slot_str_index (typeIs_str _ _ _) F.entry_str_index (F.args_str_index_2 _ _) (gives_str_index figs ⟨#[c]⟩ t t' (c - 48) [] (occ_fig h1 h2)) ⟨.int _, H, I.tok _, ⟨_, rfl⟩, q⟩
end

/-! ### texts as lists of codes -/
theorem str_len_app (x y : Str) : (x ++ y).length = x.length + y.length := by
  show (x.cps ++ y.cps).size = _
  rw [Array.size_append]; rfl
theorem str_app_list (x y : Str) : (x ++ y).cps.toList = x.cps.toList ++ y.cps.toList := by
  show (x.cps ++ y.cps).toList = _
  simp
theorem str_ext {x y : Str} (h : x.cps.toList = y.cps.toList) : x = y := by
  obtain ⟨a⟩ := x
  obtain ⟨b⟩ := y
  congr 1
  exact Array.toList_inj.mp h
theorem str_len_list (x : Str) : x.cps.toList.length = x.length := by simp [Str.length]
theorem slice_mem {x : Str} {l u : Option Int} {c : Nat} (h : c ∈ (Txt.slice x l u).cps.toList) : c ∈ x.cps.toList := by
  unfold Txt.slice at h
  split at h
  · exact h
  · have h : c ∈ (List.filterMap (fun i => x.cps[i]?) (Builtin.Str.strSliceIndices l u 1 x.length)).toArray.toList := h
    rw [List.toList_toArray] at h
    obtain ⟨i, _, e⟩ := List.mem_filterMap.mp h
    rw [← Array.getElem?_toList] at e
    exact List.mem_of_getElem? e
theorem foldl_app (a : Array Nat) : ∀ (k : Nat) (acc : Array Nat), ((List.replicate k a).foldl (· ++ ·) acc).toList = acc.toList ++ (List.replicate k a.toList).flatten
  | 0, acc => by simp
  | k + 1, acc => by
    rw [List.replicate_succ, List.foldl_cons, foldl_app a k, List.replicate_succ, List.flatten_cons]
    simp
theorem mul_list (x : Str) (n : Nat) : (Txt.mul x (n : Int)).cps.toList = (List.replicate n x.cps.toList).flatten := by
  unfold Txt.mul
  by_cases h1 : (n : Int) < 1
  · have h0 : n = 0 := by omega
    subst h0
    rw [if_pos h1]
    rfl
  · rw [if_neg h1]
    by_cases h2 : ((n : Int) == 1 || x.length == 0) = true
    · rw [if_pos h2]
      rcases Bool.or_eq_true_iff.mp h2 with h | h
      · have h0 : n = 1 := by have := eq_of_beq h; omega
        subst h0
        simp
      · have h0 : x.cps.toList = [] := List.length_eq_zero_iff.mp (by rw [str_len_list]; exact eq_of_beq h)
        rw [h0]
        have : ∀ k : Nat, (List.replicate k ([] : List Nat)).flatten = [] := fun k => by induction k with
          | zero => rfl
          | succ k ih => rw [List.replicate_succ, List.flatten_cons, ih]; rfl
        exact (this n).symm
    · rw [if_neg h2]
      show ((List.replicate (n : Int).toNat x.cps).foldl (· ++ ·) #[]).toList = _
      rw [foldl_app]
      simp
theorem mul_ok (x : Str) (n : Nat) (hn : n ≤ 100000) (h : x.length * n ≤ 100000) : MulOk x (n : Int) := by
  have hz : (100000 : Nat) ≤ sizeLine := by rw [sizeLine_eq]; decide
  refine ⟨?_, fun h1 h2 => ?_, fun h1 h2 => ?_⟩
  · rw [decide_eq_false (by omega), decide_eq_false (by omega)]; rfl
  · have hp : (0 : Int) < n := by omega
    rw [gt_iff_lt, Int.not_lt, Int.le_ediv_iff_mul_le hp]
    have e : ((x.length : Int)) * (n : Int) = ((x.length * n : Nat) : Int) := by simp
    rw [e]
    omega
  · unfold Builtin.Str.tooLong
    rw [Int.toNat_natCast]
    exact decide_eq_false (by omega)
end L2

set_option Elab.async false
set_option linter.all false
set_option maxRecDepth 100000
namespace L2
open PySem PySem.Spec PyProof.Rows

/-! ### what a value is, as data -/
mutual
inductive Den (K : PySem.W.Frag) (H : Hp) : V → PyData → Prop
  | non : Den K H .non .none
  | bl (b : Bool) : Den K H (.bl b) (.bool b)
  | int (i : Int) : Den K H (.int i) (.int i)
  | str (x : Str) : Den K H (.str x) (.str x)
  | lst {a : Addr} {xs : List V} {ds : List PyData} : SqL K H a xs → DenAll K H xs ds → Den K H (.ref a) (.list ds)
  | tup {a : Addr} {xs : List V} {ds : List PyData} : SqT K H a xs → DenAll K H xs ds → Den K H (.ref a) (.tuple ds)
inductive DenAll (K : PySem.W.Frag) (H : Hp) : List V → List PyData → Prop
  | nil : DenAll K H [] []
  | cons {x : V} {xs : List V} {d : PyData} {ds : List PyData} : Den K H x d → DenAll K H xs ds → DenAll K H (x :: xs) (d :: ds)
end
section
variable {X : Cx} {pins : List (Addr × Obj)} {σ : St} {H : Hp} {s : Shared}
mutual
theorem Den.reads (I : Inv X pins σ H s) : ∀ {x : V} {d : PyData} {u : Value}, Den X.K H x d → RelV x u → ∃ as, Reads s.heap u d as
  | _, _, _, .non, r => by cases r; exact ⟨_, Reads.none⟩
  | _, _, _, .bl b, r => by cases r; exact ⟨_, Reads.bool b⟩
  | _, _, _, .int i, r => by obtain ⟨t, rfl⟩ := r; exact ⟨_, Reads.int i t⟩
  | _, _, _, .str x, r => by obtain ⟨t, rfl⟩ := r; exact ⟨_, Reads.str x t⟩
  | _, _, _, .lst h hs, r => by
    cases r
    obtain ⟨its, rv, p, hz⟩ := I.list h
    obtain ⟨as, q⟩ := DenAll.reads I hs rv
    obtain ⟨o, ho, hc, n, hd⟩ := p.isList
    exact ⟨_, reads_list_at ho hc hd (by simpa using q)⟩
  | _, _, _, .tup h hs, r => by
    cases r
    obtain ⟨its, rv, p, hz⟩ := I.tuple h
    obtain ⟨as, q⟩ := DenAll.reads I hs rv
    obtain ⟨o, ho, hc, n, hd⟩ := (show s.heap.IsTuple _ _ from p)
    exact ⟨_, reads_tuple_at ho hc hd (by simpa using q)⟩
theorem DenAll.reads (I : Inv X pins σ H s) : ∀ {xs : List V} {ds : List PyData} {us : List Value}, DenAll X.K H xs ds → Vals xs us → ∃ as, ReadsAll s.heap us ds as
  | _, _, _, .nil, r => by cases r; exact ⟨_, ReadsAll.nil⟩
  | _, _, _, .cons h hs, r => by
    cases r with
    | cons r rr =>
      obtain ⟨as, q⟩ := Den.reads I h r
      obtain ⟨bs, p⟩ := DenAll.reads I hs rr
      exact ⟨_, ReadsAll.cons q p⟩
end
/-- ==, != of any two values that are data -/
def rEqD (K : PySem.W.Frag) (neg : Bool) : R2 := fun x y H Q => ∃ d e, Den K H x d ∧ Den K H y e ∧ SeqAt.shaped d = true ∧ SeqAt.shaped e = true ∧ Q (.bl (if neg then !PyData.eqv d e else PyData.eqv d e)) H
theorem op_eqD (hu : X.A.units + 64 < cLine) : OpR X (compareOp .Eq) (rEqD X.K false) := by
  intro pins s σ H x y v u Q I rx ry h
  obtain ⟨d, e, hd, he, sd, se, q⟩ := h
  obtain ⟨as, ra⟩ := hd.reads I rx
  obtain ⟨bs, rb⟩ := he.reads I ry
  exact eq_dataH ra rb sd se hu (fin_bl I q rfl)
theorem op_neD (hu : X.A.units + 64 < cLine) : OpR X (compareOp .NotEq) (rEqD X.K true) := by
  intro pins s σ H x y v u Q I rx ry h
  obtain ⟨d, e, hd, he, sd, se, q⟩ := h
  obtain ⟨as, ra⟩ := hd.reads I rx
  obtain ⟨bs, rb⟩ := he.reads I ry
  exact ne_dataH ra rb sd se hu (fin_bl I q rfl)
end

/-! ### data that is known by its shape -/
theorem denAll_ints {K : PySem.W.Frag} {H : Hp} : ∀ ns : List Int, DenAll K H (ns.map V.int) (ns.map PyData.int)
  | [] => .nil
  | n :: r => .cons (.int n) (denAll_ints r)
theorem denAll_strs {K : PySem.W.Frag} {H : Hp} : ∀ ns : List Str, DenAll K H (ns.map V.str) (ns.map PyData.str)
  | [] => .nil
  | n :: r => .cons (.str n) (denAll_strs r)
theorem shaped_strs : ∀ ns : List Str, (∀ x ∈ ns, PyData.strOk x = true) → SeqAt.shaped (.list (ns.map PyData.str)) = true := by
  have a : ∀ ns : List Str, (∀ x ∈ ns, PyData.strOk x = true) → PyData.canLayAll0 (ns.map PyData.str) = true := by
    intro ns
    induction ns with
    | nil => intro _; rfl
    | cons x r ih => intro h; simp [PyData.canLayAll0, PyData.canLay0, h x List.mem_cons_self, ih fun y hy => h y (List.mem_cons_of_mem _ hy)]
  have b : ∀ ns : List Str, PyData.depthAll (ns.map PyData.str) = 0 := by
    intro ns
    induction ns with
    | nil => rfl
    | cons x r ih => simp [PyData.depthAll, PyData.depth, ih]
  intro ns h
  simp [SeqAt.shaped, PyData.canLay0, PyData.depth, a ns h, b ns]

/-! ### isinstance -/
section
variable {X : Cx}
theorem call_isinst : CallR X (.builtin "isinstance") (fun xs H Q => ∃ x n t b, xs = [x, .ty n] ∧ TyOf X.K H x t ∧ PySem.W.kitOne X.K t (.type n) = some b ∧ Q (.bl b) H) := by
  intro pins s σ H xs us Q I r h
  obtain ⟨x, n, t, b, rfl, ty, e, q⟩ := h
  obtain ⟨u, v, rfl, ru, rv⟩ := vals2 r
  cases rv
  exact isinst_ok I ru ty e fun tk => ⟨.bl b, H, I.tok _, rfl, q⟩
end
end L2

set_option Elab.async false
set_option linter.all false
set_option maxRecDepth 100000
namespace L2
open PySem PySem.Spec PyProof.Rows

/-! ### a list walked from its end, and joined -/
namespace RevF
theorem noLen : typeLookup (.type "list_reverseiterator") "__len__" = pure none := by
  rw [typeLookup_type, builtinLookup_eq_fast]
  kernel_rfl
theorem hasHint : typeLookup (.type "list_reverseiterator") "__length_hint__" = pure (some (.builtin "list_reverseiterator.__length_hint__")) := by
  rw [typeLookup_type, builtinLookup_eq_fast]
  kernel_rfl
end RevF

theorem collect_rev {prog : Program} {w : World} {A : Around} {E : Value → Shared → Prop} {s : Shared} {I l : Addr} {items : Array Value} {Q : List Value → Shared → Prop} (hh : A.handled = none)
    (hit : s.heap.IsRevIter I l ((items.size : Int) - 1)) (hl : s.heap.IsList l items) (hne : l ≠ I) (hn : items.size ≤ sizeLine)
    (hQ : ∀ s' acc, Moved [I] (fun a b => b = a) s s' → ItemsOf (fun i v => items[items.size - 1 - i]? = some v) acc items.size → Q acc.toList s') : wpAny (model prog w) A (collect (.ref I)) Q E s := by
  obtain ⟨oI, hoI, hcI, hdI⟩ := id hit
  obtain ⟨ol, hol, hcl, nl, hdl⟩ := id hl
  have hIlt := Heap.lt_size hoI
  have hllt := Heap.lt_size hol
  have hSfp : s.heap.objs.size ∉ [I, l] := fun hm => by
    rcases List.mem_cons.mp hm with z | z
    · exact Nat.lt_irrefl _ (by rw [← z] at hIlt; exact hIlt)
    · exact Nat.lt_irrefl _ (by rw [← List.mem_singleton.mp z] at hllt; exact hllt)
  have hSI : s.heap.objs.size ≠ I := fun z => hSfp (by rw [z]; exact List.mem_cons_self)
  have W := (Walks.listRev (prog := prog) (w := w) (A := A.in1) hh I l hne items).toS
  unfold collect
  refine wpAny_bind (wpAny_runValue (codeAny_builtin F.entry_proto_collect ?_))
  rw [Around.under_plainId F.plain_proto_collect _]
  show wpAny _ A.in1 (newList [] >>= fun m => again (.builtin "list.__iadd__" ⟨[m, .ref I], []⟩)) _ _ s
  refine wpAny_bind (wpAny_newObj_type (wpAny_pure ⟨plainId_quiet F.plain_list_iadd _, codeAny_builtin F.entry_list_iadd ?_⟩))
  rw [Around.under_plainId F.plain_list_iadd _]
  have up : ∀ b o, s.heap.get? b = some o → (s.heap.push { cls := .type "list", data := .seq ([] : List Value).toArray }).get? b = some o := fun b o e => Heap.get?_push_of_some _ e
  have new : (s.heap.push { cls := .type "list", data := .seq ([] : List Value).toArray }).get? s.heap.objs.size = some { cls := .type "list", data := .seq ([] : List Value).toArray } := Heap.get?_push_size _ rfl
  have it1 : (s.heap.push { cls := .type "list", data := .seq ([] : List Value).toArray }).IsRevIter I l ((items.size : Int) - 1) := hit.at fun o e => up _ o e
  have l1 : (s.heap.push { cls := .type "list", data := .seq ([] : List Value).toArray }).IsList l items := hl.at fun o e => up _ o e
  have notSame : Builtin.List.listSameRef (.ref s.heap.objs.size) (.ref I) = false := by simp [Builtin.List.listSameRef, hSI]
  show wpAny _ A.in1 (Builtin.List.listExtendWith (.ref s.heap.objs.size) (.ref I) (.ref s.heap.objs.size)) _ _ _
  unfold Builtin.List.listExtendWith
  have ty : ({ s with heap := s.heap.push { cls := .type "list", data := .seq ([] : List Value).toArray } } : Shared).TypeIs (.ref I) "list_reverseiterator" := it1.typeIs
  refine wpAny_bind (wpAny_typeOf ty ?_)
  rw [if_neg (by rw [notSame]; decide)]
  refine wpAny_bind (wpAny_pyIter_revIter it1 ?_)
  refine wpAny_bind (wpAny_holding ?_)
  unfold Builtin.List.listLengthHint
  refine wpAny_bind (wpAny_specialOf ty RevF.noLen ?_)
  show wpAny _ A.in1 (specialOf (Value.ref I) (Str.ofString "__length_hint__") >>= _) _ _ _
  refine wpAny_bind (wpAny_specialOf ty RevF.hasHint ?_)
  have hsp : splitId "list_reverseiterator.__length_hint__" = some ("list_reverseiterator", "__length_hint__") := by decide +kernel
  generalize hid : ("list_reverseiterator.__length_hint__" : String) = hint at hsp ⊢
  dsimp only
  simp only [hsp]
  refine wpAny_bind (wpAny_isInstance (b := true) ty (by rw [isSubtype_type]; kernel_rfl) ?_)
  subst hid
  refine wpAny_pure ?_
  rw [if_neg (by decide)]
  have hst : 0 ≤ items.size ∧ (s.heap.push { cls := .type "list", data := .seq ([] : List Value).toArray }).IsRevIter I l ((items.size : Int) - 1 - ((0 : Nat) : Int)) ∧ (s.heap.push { cls := .type "list", data := .seq ([] : List Value).toArray }).IsList l items :=
    ⟨Nat.zero_le _, by simpa using it1, l1⟩
  refine wpAny_pure ⟨plainId_quiet F.plain_extend_loop _, codeAny_extend_loopS W hn _ hSfp _ items.size 0 _ _ _ rfl (Nat.zero_le _) hst new (ItemsOf.nil _) fun s' acc c hm hS' hacc => ?_⟩
  show wpAny _ A (load s.heap.objs.size >>= _) _ _ s'
  refine wpAny_bind (wpAny_load hS' (wpAny_pure (hQ s' acc ?_ hacc)))
  exact Moved.drop_new (o := { cls := .type "list", data := .seq ([] : List Value).toArray }) (tk := s.toks) hm (Nat.le_refl _)

theorem joinTail_made {sep : Str} {ls : List (Str × Tok)} (h : Builtin.Str.tooLong ((ls.map (·.1)).toArray.foldl (· + ·.length + sep.length) 0) = false) : Gives (joinTail sep (strValues ls)) (joinMade sep ls) := by
  have g0 := gives_joinTail sep ls h
  cases ls with
  | nil => exact g0
  | cons p r => cases r <;> exact g0
/-- the values of a walk from the end -/
theorem rev_items {P : Nat → Value → Prop} {n : Nat} {acc : Array Value} (h : ItemsOf P acc n) : acc.size = n ∧ ∀ j v, acc[j]? = some v → P j v := h
theorem join_rev_raw {prog : Program} {w : World} {A : Around} {E : Value → Shared → Prop} {s : Shared} {sep : Str} {t : Tok} {p l : Addr} {its : List Value} {ys : List Str} {Q : Value → Shared → Prop} (hh : A.handled = none)
    (hit : s.heap.IsRevIter p l ((its.toArray.size : Int) - 1)) (hl : s.heap.IsList l its.toArray) (hlp : l ≠ p) (rvl : Vals (ys.map V.str) its) (hz : ys.length ≤ sizeLine) (hok : JoinOk sep ys.reverse = true)
    (hQ : ∀ s' t' k, Moved [p] (fun a b => b = a) s s' → Q (.str (Txt.join sep ys.reverse) t') { s' with toks := k }) : wpAny (model prog w) A (call (.builtin "str.join") [.str sep t, .ref p]) Q E s := by
  have hlen : its.toArray.size = ys.length := by rw [List.size_toArray, ← rvl.length, List.length_map]
  refine wpAny_call (codeAny_call_builtin F.slot_str_join.plain F.entry_str_join (F.slot_str_join.check _ _ _ _ _ _ _ _ (typeIs_str _ _ _) (F.args_str_join_2 _ _) ?_))
  rw [join_tree_other]
  refine wpAny_bind (wpAny_typeOf hit.typeIs ?_)
  show wpAny _ A.in1 ((pyIter (.ref p)).tryCatch _ >>= fun it => collect it >>= fun items => joinTail sep items) _ _ s
  refine wpAny_bind (wpAny_tryCatch (wpAny_pyIter_revIter hit ?_))
  refine wpAny_bind (collect_rev (A := A.in1) hh hit hl hlp (by rw [hlen]; exact hz) fun s' acc hm hacc => ?_)
  obtain ⟨hsz, hat⟩ := rev_items hacc
  have item : ∀ (j : Nat) (v : Value), acc[j]? = some v → ∃ y t, ys.reverse[j]? = some y ∧ v = Value.str y t := fun j v e => by
    have hj : j < ys.length := by rw [← hlen, ← hsz]; exact (Array.getElem?_eq_some_iff.mp e).1
    have e1 := hat j v e
    rw [hlen] at e1
    have e2 : its[ys.length - 1 - j]? = some v := by simpa using e1
    have hk : ys.length - 1 - j < ys.length := by omega
    obtain ⟨u, hu, ru⟩ := rvl.get (i := ys.length - 1 - j) (x := V.str ys[ys.length - 1 - j]) (by simp [hk])
    rw [e2] at hu
    cases hu
    obtain ⟨t', rfl⟩ := ru
    exact ⟨_, t', by rw [List.getElem?_reverse hj]; simp [hk], rfl⟩
  obtain ⟨ls, hls⟩ := exists_strValues acc.toList fun v hv => by
    obtain ⟨j, hj⟩ := List.mem_iff_getElem?.mp hv
    obtain ⟨y, t', _, e⟩ := item j v (by simpa using hj)
    exact ⟨y, t', e⟩
  have hll : ls.length = ys.length := by
    have := congrArg List.length hls
    simpa [strValues, hsz, hlen] using this
  have hmap : ls.map (·.1) = ys.reverse := by
    refine List.ext_getElem? fun j => ?_
    by_cases hj : j < ys.length
    · have hj' : j < ls.length := by rw [hll]; exact hj
      have e1 : acc[j]? = some (Value.str ls[j].1 ls[j].2) := by
        rw [← Array.getElem?_toList, ← hls]
        simp [strValues, hj']
      obtain ⟨y, t', e2, e3⟩ := item j _ e1
      rw [e2, List.getElem?_map]
      injection e3 with e4 _
      simp [hj', e4]
    · rw [List.getElem?_eq_none (by simp; omega), List.getElem?_eq_none (by simp; omega)]
  rw [← hls]
  rw [← hmap] at hok hQ
  have hok' := hok
  unfold JoinOk at hok'
  rw [Bool.not_eq_true'] at hok'
  exact joinTail_made hok' prog w A (wants Q E) s' (post_join ls ⟨joinFit_length hok', fun t' k => hQ s' t' k hm⟩)

section
variable {X : Cx}
/-- sep.join(reversed(xs)) -/
def tJoinRev (K : PySem.W.Frag) (ts te : TE) : TE := fun σ H Q => ts σ H fun x H1 => ∃ sep : Str, x = .str sep ∧ te σ H1 fun y H2 => ∃ (l : Addr) (ys : List Str), y = .ref l ∧ SqL K H2 l (ys.map V.str) ∧ JoinOk sep ys.reverse = true ∧ Q (.str (Txt.join sep ys.reverse)) H2
theorem pe_joinrev {o e : Expr} {ts te : TE} {np p1 apos cpos : Pos} (hc : X.calm = true) (hg : Gl X "reversed") (hm : X.mg "reversed" = none) (ho : PE X o ts) (he : PE X e te)
    (hbase : attributeBase o "join" X.env (eval o X.env) = eval o X.env := by rfl)
    (hfew : ((backTo cpos (starEach [.Call (.Name "reversed" np) [e] [] p1] X.env)).all (fun x => !x.1) && (backToKw cpos (keywordEach [] X.env)).all (fun x => x.1.isSome)
      && decide ([Expr.Call (.Name "reversed" np) [e] [] p1].length + ([] : List Keyword).length + (if ([] : List Keyword).isEmpty then 0 else 1) < 30)) = true := by rfl)
    (hline : (apos.endLine == cpos.line) = true := by rfl) (hs : starEach [.Call (.Name "reversed" np) [e] [] p1] X.env = [(false, eval (.Call (.Name "reversed" np) [e] [] p1) X.env)] := by rfl)
    (hs1 : starEach [e] X.env = [(false, eval e X.env)] := by rfl) :
    PE X (.Call (.Attribute o "join" apos) [.Call (.Name "reversed" np) [e] [] p1] [] cpos) (tJoinRev X.K ts te) := by
  intro pins s σ H Q I h
  refine wpAny_Call_method_late hbase hfew hline rfl (thn (ho pins s σ H _ I h) fun v s1 ⟨x, H1, I1, r1, q1⟩ => ?_)
  obtain ⟨sep, rfl, q1⟩ := q1
  obtain ⟨t, rfl⟩ := r1
  refine ⟨"str", "str.join", F.plainAttrs_str, F.slot_str_join, F.type_str_join, typeIs_str _ _ _, (fun _ e => nomatch e), ?_⟩
  rw [hs]
  refine Calls.callWith_builtin rfl (Calls.evalArgs_plain (Calls.spliced_cons ?_))
  refine Call_ (ld_blt I1 hg hm PyProof.Rows.Boot.«reversed» (PyProof.Rows.callWith_type1 ?_ hs1 rfl))
  rw [hs1]
  refine Calls.spliced_cons (thn (he pins s1 σ H1 _ I1 q1) fun yv s2 ⟨y, H2, I2, ry, q2⟩ => Calls.spliced_nil ?_)
  obtain ⟨l, ys, rfl, hq, hok, q⟩ := q2
  cases ry
  obtain ⟨its, rv, pl, hz⟩ := I2.list hq
  obtain ⟨o, hol, _⟩ := id pl.isList
  refine call_reversed_list pl.isList ?_
  refine Calls.spliced_nil ?_
  refine join_rev_raw (I2.ok.hd hc) ⟨_, Heap.get?_push_size _ rfl, rfl, rfl⟩ (pl.isList.at fun o e => Heap.get?_push_of_some _ e) (Nat.ne_of_lt (Heap.lt_size hol)) rv (by simpa using hz) hok fun s' t' k hm => ?_
  refine ⟨.str (Txt.join sep ys.reverse), H2, ?_, ⟨t', rfl⟩, q⟩
  obtain ⟨mh, mg, md, mo, mt⟩ := hm
  obtain ⟨hh, gg, dd, tt, oo⟩ := s'
  have e1 : oo = s2.os := mo
  have e2 : gg = s2.gens := mg
  have e3 : dd = s2.drawn := md
  subst e1 e2 e3
  refine I2.kept fun b ob e => mh b ob (fun z => ?_) (Heap.get?_push_of_some _ e)
  have hlt := Heap.lt_size e
  rw [List.mem_singleton.mp z] at hlt
  exact Nat.lt_irrefl _ hlt
end
end L2

set_option Elab.async false
set_option linter.all false
set_option maxRecDepth 100000
namespace L2
open PySem PySem.Spec PyProof.Rows
section
variable {X : Cx}
/-- int(text), a text of figures -/
theorem call_int_str : CallR X (.type "int") (fun xs H Q => ∃ z n, xs = [.str z] ∧ z.length ≤ 640 ∧ intText? z = some n ∧ Q (.int n) H) := by
  intro pins s σ H xs us Q I r h
  obtain ⟨z, n, rfl, hz, hn, q⟩ := h
  obtain ⟨u, rfl, ru⟩ := vals1 r
  obtain ⟨t, rfl⟩ := ru
  exact PySem.W.KIN.call_text hn hz ⟨.int n, H, I.tok _, ⟨_, rfl⟩, q⟩
end
end L2

set_option Elab.async false
set_option linter.all false
set_option maxRecDepth 100000
namespace L2
open PySem PySem.Spec PyProof.Rows
theorem vis_of {X : Cx} {sc : Scope} {x : Str} (h : Vis sc x) (e : X.env.scope = sc := by rfl) : Vis X.env.scope x := e ▸ h
theorem gl_of {X : Cx} {sc : Scope} {x : Str} (h : sc.names.lookup x = some .globalImplicit) (e : X.env.scope = sc := by rfl) : Gl X x := by
  show X.env.scope.names.lookup x = _
  rw [e]
  exact h
theorem loc_of {X : Cx} {sc : Scope} {x : Str} (h : sc.names.lookup x = some .local ∨ sc.names.lookup x = some .cell) (e : X.env.scope = sc := by rfl) : Loc X.env.scope x := e ▸ h
/-! ### arguments without a star -/
def plainE : Expr → Bool
  | .Starred _ _ => false
  | _ => true
def plainAll : List Expr → Bool
  | [] => true
  | e :: r => plainE e && plainAll r
theorem stp {e : Expr} {es : List Expr} {env : Env} (h : plainE e = true) : starEach (e :: es) env = (false, eval e env) :: starEach es env := by
  cases e <;> first | rfl | cases h
theorem st1 {e : Expr} {env : Env} (h : plainE e = true) : starEach [e] env = [(false, eval e env)] := by
  rw [stp h]; rfl
theorem st2 {e d : Expr} {env : Env} (h : plainE e = true) (h2 : plainE d = true) : starEach [e, d] env = [(false, eval e env), (false, eval d env)] := by
  rw [stp h, st1 h2]
theorem anp {env : Env} {pos : Pos} : ∀ {es : List Expr}, plainAll es = true → (backTo pos (starEach es env)).any (·.1) = false
  | [], _ => rfl
  | e :: r, h => by
    have h' : (plainE e && plainAll r) = true := h
    rw [Bool.and_eq_true] at h'
    rw [stp h'.1]
    show (false || (backTo pos (starEach r env)).any (·.1)) = false
    rw [anp h'.2]
    rfl
theorem alp {env : Env} {pos : Pos} : ∀ {es : List Expr}, plainAll es = true → (backTo pos (starEach es env)).all (fun x => !x.1) = true
  | [], _ => rfl
  | e :: r, h => by
    have h' : (plainE e && plainAll r) = true := h
    rw [Bool.and_eq_true] at h'
    rw [stp h'.1]
    show (true && (backTo pos (starEach r env)).all (fun x => !x.1)) = true
    rw [alp h'.2]
    rfl
/-- a body's term, and its reading -/
theorem ex_read {A B : TS → Prop} (t : TS) (h1 : A t) (h2 : B t) : ∃ t, A t ∧ B t := ⟨t, h1, h2⟩
end L2

set_option Elab.async false
set_option linter.all false
set_option maxRecDepth 100000
namespace HT
open PySem PyProof.Rows
section
variable {prog : Program} {w : World} {A : Around} {E : Value → Shared → Prop} {s : Shared}
/-- t[a:b], the whole: t itself -/
theorem getItem_tuple_all {t sl : Addr} {items : Array Value} {vl vu : Value} {lo hi : Option Int} {Q : Value → Shared → Prop} (ht : IsTup s.heap t items) (hs : s.heap.IsSliceOf sl vl vu .none) (pl : IsPart vl lo) (pu : IsPart vu hi)
    (hw : sIx items.size 0 lo = 0 ∧ sIx items.size items.size hi = items.size)
    (h : Q (.ref t) s) : wpAny (model prog w) A (getItem (.ref t) (.ref sl)) Q E s := by
  obtain ⟨os, hos, hcs, hds⟩ := id hs
  have hTs : s.TypeIs (.ref sl) "slice" := ⟨os, hos, hcs⟩
  unfold getItem
  try with_reducible refine wpAny_holding ?_
  first | refine wpAny_bind (wpAny_pure ?_) | skip
  refine wpAny_bind (wpAny_sequenceKey ht.typeIs (by decide) ?_)
  refine wpAny_bind (wpAny_callSpecial?_slot (name := Str.ofString "__getitem__") ht.typeIs PyProof.Rows.slot_tuple_getitem
    (wpAny_call_entry PyProof.Rows.slot_tuple_getitem ht.typeIs entry_tuple_getitem ?_ (args_tuple_getitem _ _)))
  show wpAny _ _ (Builtin.Tuple.tupleItemsOf (.ref t) >>= _) _ _ s
  refine wpAny_bind (tupleItemsOf_ ht ?_)
  refine wpAny_bind (wpAny_typeOf hTs ?_)
  rw [if_pos (by decide)]
  refine wpAny_bind (sliceApplied_gen hs pl pu ?_)
  have hyes : (((sIx items.size 0 lo : Nat) : Int) == 0 && (1 : Int) == 1 && (sIx items.size items.size hi - sIx items.size 0 lo) == items.size) = true := by
    rw [hw.1, hw.2]
    simp
  show wpAny _ _ (if (((sIx items.size 0 lo : Nat) : Int) == 0 && (1 : Int) == 1 && (sIx items.size items.size hi - sIx items.size 0 lo) == items.size) = true then _ else _) _ _ s
  rw [if_pos hyes]
  unfold Builtin.Tuple.tupleIsExact
  refine wpAny_bind (wpAny_bind (wpAny_typeOf ht.typeIs (wpAny_pure ?_)))
  rw [if_pos (by decide)]
  refine wpAny_bind (wpAny_rule ?_)
  exact wpAny_pure ⟨_, rfl, wpAny_pure h⟩
end
end HT
namespace L2
open PySem PySem.Spec PyProof.Rows
theorem Same.seqT {K : PySem.W.Frag} {H H' : Hp} {a : Addr} {xs : List V} (e : Same H H') (h : SqT K H a xs) : SqT K H' a xs := by
  rcases h with (h | ⟨o, h⟩) | h
  · exact .inl (.inl (e _ _ h))
  · exact .inl (.inr ⟨o, e _ _ h⟩)
  · exact .inr h
section
variable {X : Cx}
/-- t[lo:hi] -/
def rSlA (K : PySem.W.Frag) : V → Option Int → Option Int → Hp → VK → Prop := fun x lo hi H Q => ∃ a xs, x = .ref a ∧ SqT K H a xs ∧
  ((HT.sIx xs.length 0 lo = 0 ∧ HT.sIx xs.length xs.length hi = xs.length) → Q (.ref a) H) ∧
  (¬ (HT.sIx xs.length 0 lo = 0 ∧ HT.sIx xs.length xs.length hi = xs.length) → ∀ p, H p = none → Q (.ref p) (upd H p (.tup (cutV xs lo hi))))
theorem sl_tupA : SlR X (rSlA X.K) := by
  intro pins s σ H x v vl vu lo hi sl Q I rx hs pl pu h
  obtain ⟨a, xs, rfl, hx, h1, h2⟩ := h
  by_cases hw : HT.sIx xs.length 0 lo = 0 ∧ HT.sIx xs.length xs.length hi = xs.length
  · cases rx
    obtain ⟨its, r, ht, hz⟩ := I.tuple hx
    have hlen : its.toArray.size = xs.length := by rw [List.size_toArray]; exact r.length.symm
    refine ⟨"tuple", _, PyProof.Rows.slot_tuple_getitem.lookup, ht.typeIs, ?_⟩
    exact HT.getItem_tuple_all ht hs pl pu (by rw [hlen]; exact hw) ⟨.ref a, H, I, rfl, h1 hw⟩
  · exact sl_tup pins s σ H _ v vl vu lo hi sl Q I rx hs pl pu ⟨a, xs, rfl, hx, hw, h2 hw⟩
/-- int * int, any sizes that fit -/
theorem op_mulB : OpR X (binaryOp .Mult) (rI IntMulOk fun i j => .int (i * j)) := opI fun _ _ _ _ _ _ _ hc q => mul_int q hc
end
/-- an int of the size that a script may have -/
def Bits (i : Int) : Prop := Builtin.Int.intBits i ≤ 2 ^ 20
theorem bits_abs {i : Int} (h : Bits i) : i.natAbs < 2 ^ (2 ^ 20) := by
  unfold Bits Builtin.Int.intBits at h
  split at h
  · rename_i h0
    have : i = 0 := by simpa using h0
    rw [this]
    exact Nat.pow_pos (by decide)
  · rename_i h0
    have h0' : i.natAbs ≠ 0 := by
      intro z
      apply h0
      have : i = 0 := by omega
      rw [this]; rfl
    exact (Nat.log2_lt h0').mp (by omega)
theorem bits_zero : Bits 0 := by unfold Bits; decide +kernel
/-- the square of a script's int, a bit more than it -/
theorem mulOk_near {i j c d : Int} (hc : Bits c) (hd : Bits d) (h1 : (i - c).natAbs ≤ 1000000) (h2 : (j - d).natAbs ≤ 1000000) : IntMulOk i j := by
  have key : ∀ {i c : Int}, Bits c → (i - c).natAbs ≤ 1000000 → Builtin.Int.intBits i ≤ 2 ^ 20 + 1 := by
    intro i c hc h
    have hb := bits_abs hc
    have hlt : i.natAbs < 2 ^ (2 ^ 20 + 1) := by
      rw [Nat.pow_succ]
      have h20 : 1000000 ≤ 2 ^ 20 := by decide
      have hle : 2 ^ 20 ≤ 2 ^ (2 ^ 20) := Nat.pow_le_pow_right (by decide) (by decide)
      have : i.natAbs ≤ c.natAbs + (i - c).natAbs := by omega
      generalize 2 ^ (2 ^ 20) = B at *
      omega
    unfold Builtin.Int.intBits
    split
    · exact Nat.zero_le _
    · rename_i h0
      have h0' : i.natAbs ≠ 0 := by
        intro z
        apply h0
        have : i = 0 := by omega
        rw [this]; rfl
      have := (Nat.log2_lt h0').mpr hlt
      omega
  exact IntMulOk.of_le (key hc h1) (key hd h2) (by decide)

/-! ### the head, with the size of the script's ints -/
theorem weight_mem : ∀ {ns : List Int} {m : Nat}, PySem.W.WData.weightAll (ns.map PySem.W.WData.int) ≤ m → ∀ i ∈ ns, Builtin.Int.intBits i ≤ m
  | [], _, _, i, h => absurd h (by simp)
  | n :: r, m, hw, i, h => by
    have hw : Builtin.Int.intBits n + 1 + PySem.W.WData.weightAll (r.map PySem.W.WData.int) ≤ m := hw
    rcases List.mem_cons.mp h with e | e
    · rw [e]; omega
    · exact weight_mem (by omega) i e

theorem attach_callB {l : PySem.W.OpenLaw} {n : Nat} {q : Program} {loose : List Str} {XP : (Str → Option Value) → Heap → Prop} {YP : World → Heap → Prop} {d : DefRec}
    (hn : l.most = some n) (hdf : d.params.defaults = [])
    (call : ∀ (w : World) (s₀ s₁ : Shared) (mg mb : Str → Option Value) (fa : Addr) (o : Obj) (pm cd doc : Value) (a : Addr) (vs : List Value) (ns : List Int),
      PySem.W.Ground q loose [] XP w s₀ mg mb s₁.heap → YP w s₁.heap →
      s₁.heap.get? fa = some o → o.data = .func (Calls.docDef d.name d.params d.body d.scope pm cd doc) → s₁.heap.CodeRec cd d.name → mg d.name = some (.ref fa) →
      s₁.heap.get? a = some { cls := .type "list", data := .seq vs.toArray } → IntsAre vs ns → ns.length ≤ n → (∀ i ∈ ns, Bits i) → s₁.gens = #[] →
      codeAny (model l.prog w) callerA (.call (.ref fa) ⟨[.ref a], []⟩) (fun r s' => r = .ok (.ret (.bool true)) ∧ OldK s₁.heap s'.heap ∧ s'.os = s₁.os ∧ AllBare s'.gens) s₁) :
    PySem.W.WalkO q loose XP YP l.row.toRowW d [] (fun f vs => PySem.call f vs) := by
  intro w s₀ s₁ mg mb G Y fa o pm cd doc dV kV ho hd hcd hD hmg hg args vals as hpre hlay hrd hwl hlo
  obtain rfl : dV = .none := PySem.W.Dflts.none hD hdf
  obtain rfl : kV = .none := PySem.W.Dflts.noKw hD
  obtain ⟨a, vs, ns, rfl, rfl, hobj, hints, hlen⟩ := Att.script_of hn hpre hwl
  have hb : ∀ i ∈ ns, Bits i := by
    have h1 : (PySem.W.WData.layable (.list (ns.map PySem.W.WData.int)) && true) = true := hlay
    rw [Bool.and_true] at h1
    have h2 : (PySem.W.WData.canLay (.list (ns.map PySem.W.WData.int)) && decide (PySem.W.WData.depth (.list (ns.map PySem.W.WData.int)) ≤ 64) && decide (PySem.W.WData.weight (.list (ns.map PySem.W.WData.int)) ≤ 2 ^ 20)) = true := h1
    rw [Bool.and_eq_true] at h2
    exact weight_mem (of_decide_eq_true h2.2)
  refine PySem.W.enter_call (codeAny_mono (call w s₀ s₁ mg mb fa o pm cd doc a vs ns G Y ho (PySem.W.fd_plain hd) hcd hmg hobj hints hlen hb hg) fun r s' hq => ?_)
  obtain ⟨rfl, h2, h3, h4⟩ := hq
  exact ⟨.inl ⟨.bool true, .bool true, [], rfl, fun _ => rfl, .bool true, Att.post_true l _, fun _ => ⟨List.Pairwise.nil, fun _ hm => (nomatch hm)⟩⟩, h2, h3, h4⟩
theorem walk_ofB {l : PySem.W.OpenLaw} {n k : Nat} {q : Program} {loose : List Str} {XP : (Str → Option Value) → Heap → Prop} {YP : World → Heap → Prop} {d : DefRec} {K : Params → PySem.W.Frag} {CX : World → CXT} {sp : World → Sp} {x : Str}
    (hn : l.most = some n) (hn2 : n ≤ sizeLine) (hdf : d.params.defaults = []) (hr : Room k callerA)
    (hY : ∀ (w : World) (h : Heap), YP w h → (K w.params).In h)
    (F : ∀ (w : World) (mg : Str → Option Value) (fa : Addr) (h : Heap), (K w.params).In h → h.Ns mainGlobals mg → mg d.name = some (.ref fa) →
      ∃ fd : FuncData, (∀ (s : Shared) (u : Value), BindsTo s fd ⟨[u], []⟩ [(x, u)]) ∧
        ∀ base : Heap, (K w.params).In base → base.Ns mainGlobals mg → FnOk l.prog w (K w.params) mg base (CX w) k fa fd [x] (sp w))
    (hsp : ∀ (w : World) (H : Hp) (a : Addr) (ns : List Int), ns.length ≤ n → (∀ i ∈ ns, Bits i) → Only H → SqL (K w.params) H a (ns.map V.int) → sp w [.ref a] H (fun v _ => v = .bl true) fun _ _ _ => False)
    (hCX : ∀ (w : World) (H : Hp) (s : Shared) (e : Value) (s' : Shared), CX w [] H s (fun _ _ _ => False) e s' → False) :
    PySem.W.WalkO q loose XP YP l.row.toRowW d [] (fun f vs => PySem.call f vs) := by
  refine attach_callB hn hdf fun w s₀ s₁ mg mb fa o pm cd doc a vs ns G Y ho hd hcd hmg hobj hints hlen hbits hg => ?_
  have KX := hY w _ Y
  obtain ⟨fd, hb, hF⟩ := F w mg fa _ KX G.T.g hmg
  exact law_call KX G.T.g G.T.b G.T.builtins G.T.nolimit hg hobj hints (Nat.le_trans hlen hn2) hr hF hb (fun H hO hS => hsp w H a ns hlen hbits hO hS) fun H e s' => hCX w H s₁ e s'
end L2

set_option Elab.async false
set_option linter.all false
set_option maxRecDepth 100000
namespace L2
open PySem PySem.Spec PyProof.Rows
/-! ### loops, opened by their source alone -/
def ForJ (J : It) (g : TG) (tb : TS) (D : Ends) (σ : St) (H1 : Hp) : Prop := ∃ W : Nat → Nat → St → Hp → Prop, (∃ m, W 0 m σ H1) ∧ ∀ i m σ H, W i m σ H →
  (J.stop i H ∧ D.nx σ H) ∨ (J.go i H ∧ ∃ N : St → Hp → Prop, (∀ σ' H', N σ' H' → ∃ m', m' < m ∧ W (i + 1) m' σ' H') ∧ ∀ x H', J.yld i H x H' → g x σ H' fun σ2 H2 => tb { D with nx := N, ct := N, bk := D.nx } σ2 H2)
theorem tFor_eq {wi : TI} {g : TG} {tb : TS} {D : Ends} {σ : St} {H : Hp} : tFor wi g tb D σ H = wi σ H fun J H1 => ForJ J g tb D σ H1 := rfl
def WhileJ (c : TT) (tb : TS) (D : Ends) (σ : St) (H : Hp) : Prop := tWhile c tb D σ H
/-! ### heaps and lists -/
theorem same_new {H : Hp} {p : Addr} {o : HO} (h : H p = none) : Same H (upd H p o) := fun b u e => by rw [upd_ne (ne_of_none e h)]; exact e
theorem same_upd {H H1 : Hp} {p : Addr} {o : HO} (h : Same H H1) (hp : H p = none) : Same H (upd H1 p o) := fun b u e => by rw [upd_ne (ne_of_none e hp)]; exact h b u e
theorem atI_int {cs : List Int} {i : Int} (h0 : 0 ≤ i) (h1 : i < cs.length) : atI (cs.map V.int) i = some (V.int (cs.getD i.toNat 0)) := by
  obtain ⟨j, rfl⟩ := Int.eq_ofNat_of_zero_le h0
  have hj : j < cs.length := by omega
  refine atI_nat ?_
  simp [hj]
theorem getD_in {cs : List Int} {j : Nat} (h : j < cs.length) : cs.getD j 0 ∈ cs := by
  simp [List.getD, h]
theorem sIx_in {n d : Nat} {i : Int} (h0 : 0 ≤ i) (h1 : i ≤ n) : HT.sIx n d (some i) = i.toNat := by
  show (if i < 0 then (i + (n : Int)).toNat else min i.toNat n) = _
  rw [if_neg (by omega)]
  omega
theorem sIx_far {n d : Nat} {i : Int} (h0 : (n : Int) ≤ i) : HT.sIx n d (some i) = n := by
  show (if i < 0 then (i + (n : Int)).toNat else min i.toNat n) = _
  rw [if_neg (by omega)]
  omega
theorem sIx_ne {n d : Nat} {i : Int} (h0 : 0 < i) (h1 : 0 < n) : HT.sIx n d (some i) ≠ 0 := by
  show (if i < 0 then (i + (n : Int)).toNat else min i.toNat n) ≠ 0
  rw [if_neg (by omega)]
  omega
theorem cut_from {cs : List Int} {i : Int} (h0 : 0 ≤ i) : cutV (cs.map V.int) (some i) none = (cs.drop i.toNat).map V.int := by
  unfold cutV
  rw [HT.sIx_none, List.length_map]
  by_cases h1 : i ≤ cs.length
  · rw [sIx_in h0 h1, ← List.map_drop]
    refine List.take_of_length_le ?_
    rw [List.length_map, List.length_drop]
    exact Nat.le_refl _
  · rw [sIx_far (by omega), ← List.map_drop, List.drop_of_length_le (Nat.le_refl _), List.drop_of_length_le (by omega)]
    simp
/-! ### data of ints -/
theorem den_ints {K : PySem.W.Frag} {H : Hp} {a : Addr} {ns : List Int} (h : SqL K H a (ns.map V.int)) : Den K H (.ref a) (.list (ns.map PyData.int)) := .lst h (denAll_ints ns)
theorem den_intsT {K : PySem.W.Frag} {H : Hp} {a : Addr} {ns : List Int} (h : SqT K H a (ns.map V.int)) : Den K H (.ref a) (.tuple (ns.map PyData.int)) := .tup h (denAll_ints ns)
theorem canLay_ints : ∀ ns : List Int, PyData.canLayAll0 (ns.map PyData.int) = true
  | [] => rfl
  | n :: r => by simp [PyData.canLayAll0, PyData.canLay0, canLay_ints r]
theorem depth_ints : ∀ ns : List Int, PyData.depthAll (ns.map PyData.int) = 0
  | [] => rfl
  | n :: r => by simp [PyData.depthAll, PyData.depth, depth_ints r]
theorem shaped_ints (ns : List Int) : SeqAt.shaped (.list (ns.map PyData.int)) = true := by
  simp [SeqAt.shaped, PyData.canLay0, PyData.depth, canLay_ints ns, depth_ints ns]
theorem shaped_intsT (ns : List Int) : SeqAt.shaped (.tuple (ns.map PyData.int)) = true := by
  simp [SeqAt.shaped, PyData.canLay0, PyData.depth, canLay_ints ns, depth_ints ns]
mutual
theorem eqv_self : ∀ d : PyData, d.canLay0 = true → PyData.eqv d d = true
  | .none, _ => rfl
  | .bool b, _ => by simp [PyData.eqv]
  | .int i, _ => by simp [PyData.eqv]
  | .str x, _ => by simp [PyData.eqv]
  | .list xs, h => by
    have h' : PyData.canLayAll0 xs = true := h
    show PyData.eqvAll xs xs = true
    exact eqvAll_self xs h'
  | .tuple xs, h => by
    have h' : PyData.canLayAll0 xs = true := h
    show PyData.eqvAll xs xs = true
    exact eqvAll_self xs h'
  | .dict _, h => by cases h
theorem eqvAll_self : ∀ ds : List PyData, PyData.canLayAll0 ds = true → PyData.eqvAll ds ds = true
  | [], _ => rfl
  | d :: r, h => by
    have h' : (PyData.canLay0 d && PyData.canLayAll0 r) = true := h
    rw [Bool.and_eq_true] at h'
    show (PyData.eqv d d && PyData.eqvAll r r) = true
    rw [eqv_self d h'.1, eqvAll_self r h'.2]
    rfl
end
end L2

set_option Elab.async false
set_option linter.all false
set_option maxRecDepth 100000
/-! ### a, b = a list -/
namespace HT
open PySem PyProof.Rows
section
variable {prog : Program} {w : World} {A : Around} {E : Value → Shared → Prop} {s : Shared}
theorem draw_list {it t : Addr} {items : Array Value} (hne : t ≠ it) : ∀ (n i : Nat) (s : Shared) (Q : List Value → Shared → Prop), s.heap.IsListIter it t i → s.heap.IsList t items → i + n ≤ items.size →
    (∀ h', h'.IsListIter it t (i + n) → Heap.SameBut it s.heap h' → Q ((items.toList.drop i).take n) { s with heap := h' }) → wpAny (model prog w) A (draw (.ref it) n) Q E s
  | 0, i, s, Q, hit, _, _, hQ => by
    show wpAny _ _ (pure []) Q E s
    exact wpAny_pure (by simpa using hQ s.heap hit (Heap.SameBut.refl ..))
  | n + 1, i, s, Q, hit, ht, hle, hQ => by
    have hlt : i < items.size := by omega
    show wpAny _ _ (pyNext (.ref it) >>= _) Q E s
    refine wpAny_bind (wpAny_pyNext_list_item hit ht (x := items[i]) (by simp [hlt]) fun h₁ hit₁ hs₁ => ?_)
    refine wpAny_bind (wpAny_holding (draw_list hne n (i + 1) _ _ hit₁ (ht.extBut hs₁.extBut hne) (by omega) fun h₂ hit₂ hs₂ => wpAny_pure ?_))
    have hd : items.toList.drop i = items[i] :: items.toList.drop (i + 1) := by simp [List.drop_eq_getElem_cons, hlt]
    have := hQ h₂ (by rw [show i + (n + 1) = i + 1 + n by omega]; exact hit₂) (hs₁.trans hs₂)
    rw [hd, List.take_succ_cons] at this
    exact this
theorem unpackItems_list {t : Addr} {items : Array Value} {Q : List Value → Shared → Prop} (hh : A.handled = none) (ht : s.heap.IsList t items)
    (hQ : ∀ h', Heap.ExtBut s.heap.objs.size s.heap h' → Q items.toList { s with heap := h' }) : wpAny (model prog w) A (unpackItems (.ref t) items.size none) Q E s := by
  have hlt : t ≠ s.heap.objs.size := by obtain ⟨o, ho, _⟩ := ht; exact Nat.ne_of_lt (Heap.lt_size ho)
  unfold unpackItems
  refine wpAny_bind ?_
  unfold notIterableAtAll
  refine wpAny_bind (wpAny_specialOf ht.typeIs slot_list_iter.lookup ?_)
  refine wpAny_pure ?_
  simp only [Bool.false_eq_true, if_false]
  refine wpAny_bind (wpAny_holding (wpAny_pyIter_list ht ?_))
  have ht0 : (s.heap.push { cls := .type "list_iterator", data := .fields #[.ref t, .int 0 0] }).IsList t items := ht.at fun o e => Heap.get?_push_of_some _ e
  refine wpAny_bind (wpAny_holding (draw_list hlt items.size 0 _ _ ⟨_, Heap.get?_push_size _ rfl, rfl, rfl⟩ ht0 (by omega) fun h₁ hit₁ hs₁ => ?_))
  have hall : List.take items.size (List.drop 0 items.toList) = items.toList := by
    rw [List.drop_zero]; exact List.take_of_length_le (by simp)
  rw [hall]
  rw [if_neg (by simp)]
  have ht₁ : h₁.IsList t items := ht0.extBut hs₁.extBut hlt
  refine wpAny_bind (wpAny_holding (wpAny_pyNext_list_end hh hit₁ ht₁ (by simp) fun h₂ he₂ => ?_))
  simp only [Option.isSome_none, Bool.false_eq_true, if_false]
  refine wpAny_pure (hQ h₂ fun b o hb e => he₂ b o hb (hs₁.extBut b o hb (Heap.get?_push_of_some _ e)))
theorem assign_Tuple_list {env : Env} {elts : List Expr} {x1} {pos : Pos} {t : Addr} {items : Array Value} {Q : Unit → Shared → Prop} (hh : A.handled = none) (ht : s.heap.IsList t items)
    (hn : (assignEach elts env).length = items.size) (hstar : (assignEach elts env).findIdx? (·.1) = none)
    (h : ∀ h', Heap.ExtBut s.heap.objs.size s.heap h' → wpAny (model prog w) A (assignInOrder ((assignEach elts env).map (·.2)) items.toList) Q E { s with heap := h' }) :
    wpAny (model prog w) A (assign (.Tuple elts x1 pos) env (.ref t)) Q E s := by
  rw [assign_Tuple]
  refine wpAny_bind (wpAny_standAt ?_)
  unfold unpack
  rw [hn, hstar]
  exact wpAny_bind (wpAny_holding (unpackItems_list hh ht h))
/-! ### t[::-1] -/
theorem filterMap_all {α β : Type} {f : α → Option β} {g : α → β} : ∀ {l : List α}, (∀ m ∈ l, f m = some (g m)) → l.filterMap f = l.map g
  | [], _ => rfl
  | a :: r, h => by
    rw [List.filterMap_cons, h a List.mem_cons_self, List.map_cons, filterMap_all fun m hm => h m (List.mem_cons_of_mem _ hm)]
theorem pick_rev (xs : Array Value) : ((List.range xs.size).filterMap fun (m : Nat) => xs[(((xs.size : Int) - 1) + (m : Int) * (-1)).toNat]?).toArray = xs.toList.reverse.toArray := by
  congr 1
  refine List.ext_getElem? fun j => ?_
  have e : ∀ m ∈ List.range xs.size, xs[(((xs.size : Int) - 1) + (m : Int) * (-1)).toNat]? = some (xs.getD (xs.size - 1 - m) .none) := fun m hm => by
    have hm' : m < xs.size := List.mem_range.mp hm
    have e1 : (((xs.size : Int) - 1) + (m : Int) * (-1)).toNat = xs.size - 1 - m := by omega
    rw [e1]
    have : xs.size - 1 - m < xs.size := by omega
    simp [Array.getD, this]
  rw [filterMap_all (g := fun m => xs.getD (xs.size - 1 - m) Value.none) e, List.getElem?_map]
  by_cases hj : j < xs.size
  · rw [List.getElem?_reverse (by simpa using hj)]
    have : xs.size - 1 - j < xs.size := by omega
    simp [hj, Array.getD, this]
  · rw [List.getElem?_eq_none (by simpa using hj), List.getElem?_eq_none (by simpa using hj)]
    rfl
theorem getItem_tuple_rev {t sl : Addr} {items : Array Value} {tk : Tok} {Q : Value → Shared → Prop} (ht : IsTup s.heap t items) (hs : s.heap.IsSliceOf sl .none .none (.int (-1) tk))
    (h : Q (.ref s.heap.objs.size) { s with heap := s.heap.push { cls := .type "tuple", data := .seq items.toList.reverse.toArray } })
    (hsz : items.size ≤ sizeLine) : wpAny (model prog w) A (getItem (.ref t) (.ref sl)) Q E s := by
  obtain ⟨os, hos, hcs, hds⟩ := id hs
  have hTs : s.TypeIs (.ref sl) "slice" := ⟨os, hos, hcs⟩
  have htake : sizeOk (.seq items.toList.reverse.toArray) := by
    show items.toList.reverse.toArray.size ≤ sizeLine
    simpa using hsz
  unfold getItem
  try with_reducible refine wpAny_holding ?_
  first | refine wpAny_bind (wpAny_pure ?_) | skip
  refine wpAny_bind (wpAny_sequenceKey ht.typeIs (by decide) ?_)
  refine wpAny_bind (wpAny_callSpecial?_slot (name := Str.ofString "__getitem__") ht.typeIs PyProof.Rows.slot_tuple_getitem
    (wpAny_call_entry PyProof.Rows.slot_tuple_getitem ht.typeIs entry_tuple_getitem ?_ (args_tuple_getitem _ _)))
  show wpAny _ _ (Builtin.Tuple.tupleItemsOf (.ref t) >>= _) _ _ s
  refine wpAny_bind (tupleItemsOf_ ht ?_)
  refine wpAny_bind (wpAny_typeOf hTs ?_)
  rw [if_pos (by decide)]
  refine wpAny_bind ?_
  unfold Builtin.Slice.sliceApplied Builtin.Slice.sliceFields
  refine wpAny_bind (wpAny_bind (wpAny_field hos hds (x := .none) rfl (wpAny_bind (wpAny_field hos hds (x := .none) rfl (wpAny_bind (wpAny_field hos hds (x := .int (-1) tk) rfl (wpAny_pure ?_)))))))
  refine wpAny_bind (slicePart_int ?_)
  show wpAny _ _ (if ((-1 : Int) == 0) = true then _ else _) _ _ s
  rw [if_neg (by decide)]
  refine wpAny_bind (slicePart_none (wpAny_bind (slicePart_none (wpAny_bind (wpAny_pure ?_)))))
  have ea : Builtin.Slice.sliceAdjust none none (-1) (items.size : Int) = ((items.size : Int) - 1, -1) := rfl
  show wpAny _ _ (match Builtin.Slice.sliceAdjust none none (-1) (items.size : Int) with | (lo, hi) => pure (lo, (-1 : Int), Builtin.Slice.slicePlaces lo hi (-1))) _ _ s
  rw [ea]
  have ep : Builtin.Slice.slicePlaces ((items.size : Int) - 1) (-1) (-1) = items.size := by
    unfold Builtin.Slice.slicePlaces
    have h1 : ¬ ((-1 : Int) > 0) := by omega
    simp only [h1, if_false]
    split
    · simp
    · omega
  refine wpAny_pure ?_
  rw [ep]
  show wpAny _ _ (if ((((items.size : Int) - 1) == 0 && (-1 : Int) == 1 && items.size == items.size) = true) then _ else _) _ _ s
  rw [if_neg (by simp), pick_rev]
  first
    | exact wpAny_bind (m := Builtin.Tuple.tupleExact _) (wpAny_newObj_type (wpAny_pure ⟨_, rfl, wpAny_pure h⟩) htake)
    | exact wpAny_bind (m := Builtin.Tuple.tupleExact _) (wpAny_newObj_type (wpAny_bind (wpAny_pure (wpAny_pure ⟨_, rfl, wpAny_pure h⟩))) htake)
    | exact wpAny_bind (wpAny_bind (m := Builtin.Tuple.tupleExact _) (wpAny_newObj_type (wpAny_pure (wpAny_pure ⟨_, rfl, wpAny_pure h⟩)) htake))
/-! ### t * n -/
theorem noFill_tuple_mul : fillsNumberSlot (.type "tuple") "mul" = pure false :=
  PySem.fillsNumberSlot_seq (id := "tuple.__mul__") (r := some (.builtin "tuple.__rmul__")) F.slot_tuple_mul.lookup (by decide +kernel) F.slot_tuple_rmul.lookup (by decide +kernel)
theorem repeat_tuple : seqRepeat? (.type "tuple") = pure (some (.builtin "tuple.__mul__")) := by
  unfold seqRepeat?
  rw [PySem.seqSlot_of (T := "tuple") (name := "__mul__") (id := "tuple.__mul__") F.slot_tuple_mul.lookup (by decide +kernel), PySem.seqSlot_of (T := "tuple") (name := "__rmul__") (id := "tuple.__rmul__") F.slot_tuple_rmul.lookup (by decide +kernel)]
  rfl
theorem int_rmul_tuple (a : Int) (t : Tok) (l : Addr) (items : Array Value) (n : Nat) (dd : Option Addr) (sl : Array (Option Value)) :
    Meets (Builtin.«int.__rmul__» ⟨[.int a t, .ref l], []⟩) (fun _ R s => s.heap.get? l = some { cls := .type "tuple", dict := dd, data := .seq items n, slots := sl } ∧ R (.ok (.ret Value.notImplemented)) s) :=
  .of_wp fun prog w A R s h => by
    obtain ⟨hp, g, d, tk, os⟩ := s
    obtain ⟨hl, h⟩ := h
    wp_walk
    exact ⟨_, rfl, h⟩
theorem tuple_mul_1 (l : Addr) (items : Array Value) (n : Nat) (dd : Option Addr) (sl : Array (Option Value)) (t : Tok) :
    Meets (Builtin.«tuple.__mul__» ⟨[.ref l, .int 1 t], []⟩) (fun _ R s => s.heap.get? l = some { cls := .type "tuple", dict := dd, data := .seq items n, slots := sl } ∧ R (.ok (.ret (.ref l))) s) :=
  .of_wp fun prog w A R s h => by
    obtain ⟨hp, g, d, tk, os⟩ := s
    obtain ⟨hl, h⟩ := h
    wp_walk
    exact ⟨_, rfl, h⟩
theorem tuple_mul_0 (l : Addr) (items : Array Value) (n : Nat) (dd : Option Addr) (sl : Array (Option Value)) (t : Tok) (hne : items.isEmpty = false) :
    Meets (Builtin.«tuple.__mul__» ⟨[.ref l, .int 0 t], []⟩) (fun _ R s => s.heap.get? l = some { cls := .type "tuple", dict := dd, data := .seq items n, slots := sl } ∧
      R (.ok (.ret (.ref s.heap.objs.size))) { s with heap := s.heap.push { cls := .type "tuple", data := .seq #[] } }) :=
  .of_wp fun prog w A R s h => by
    obtain ⟨hp, g, d, tk, os⟩ := s
    obtain ⟨hl, h⟩ := h
    wp_walk
    exact ⟨_, rfl, h⟩
end
end HT
namespace L2
open PySem PySem.Spec PyProof.Rows
section
variable {X : Cx} {pos : Pos}
/-- (a, b, ..) = a list of that length -/
def gTupL (K : PySem.W.Frag) (n : Nat) (t : TGs) : TG := fun v σ H Q => ∃ a xs, v = .ref a ∧ SqL K H a xs ∧ xs.length = n ∧ t xs σ H Q
theorem pg_tupL {es : List Expr} {k : Nat} {t : TGs} {n : Nat} (hc : X.calm = true) (h : PGs X es t)
    (hn : (assignEach es X.env).length = n := by rfl) (hst : (assignEach es X.env).findIdx? (·.1) = none := by rfl) : PG X (.Tuple es k pos) (gTupL X.K n t) := by
  intro pins s σ H v u Q I r hw
  obtain ⟨a, xs, e1, hq, hl, hw⟩ := hw
  subst e1
  cases r
  obtain ⟨its, rv, ht, hz⟩ := I.list hq
  refine HT.assign_Tuple_list (I.ok.hd hc) ht.isList (by simp [hn, ← hl, rv.length]) hst fun h' hx => ?_
  have I1 : Inv X pins σ H { s with heap := h' } := I.kept (t' := s.toks) fun b o e => hx b o (Nat.ne_of_lt (Heap.lt_size e)) e
  exact h pins _ σ H xs _ Q I1 (by simpa using rv) hw
/-- t[::-1] -/
def tRevT (K : PySem.W.Frag) (te : TE) : TE := fun σ H Q => te σ H fun x H1 => ∃ a xs, x = .ref a ∧ SqT K H1 a xs ∧ ∀ p, H1 p = none → Q (.ref p) (upd H1 p (.tup xs.reverse))
theorem pe_revT {e : Expr} {te : TE} {p2 p3 p4 : Pos} {j} (he : PE X e te) : PE X (.Subscript e (.Slice none none (some (.UnaryOp .USub (.Constant (.int 1) j p3) p4)) p2) pos) (tRevT X.K te) := by
  intro pins s σ H Q I h
  refine Subscript_ (thn (he pins s σ H _ I h) fun v s1 ⟨x, H1, I1, r1, q1⟩ => ?_)
  obtain ⟨a, xs, rfl, hx, q⟩ := q1
  cases r1
  refine wpAny_Slice ?_
  rw [evalPart_none]
  refine wpAny_pure ?_
  refine wpAny_pure ?_
  rw [evalPart_some]
  refine thn ((pe_un un_neg pe_int) pins s1 σ H1 (fun y H' => y = .int (-1) ∧ H' = H1) I1 ⟨_, rfl, rfl, rfl⟩) fun vs s2 ⟨y, H2, I2, r2, e1, e2⟩ => ?_
  subst e1 e2
  obtain ⟨tk, rfl⟩ := r2
  have I4 : Inv X pins σ H2 { s2 with heap := s2.heap.push { cls := .type "slice", data := .fields #[.none, .none, .int (-1) tk] } } := I2.kept (t' := s2.toks) fun b ob q => Heap.get?_push_of_some _ q
  obtain ⟨its, r, ht, hz⟩ := I4.tuple hx
  have hlen : its.toArray.size = xs.length := by rw [List.size_toArray]; exact r.length.symm
  refine tail_any (T := "tuple") (ops := [.ref a, .ref s2.heap.objs.size]) ht.typeIs PyProof.Rows.slot_tuple_getitem.lookup ?_ (by with_unfolding_all rfl)
  refine HT.getItem_tuple_rev ht (Heap.IsSliceOf.new ..) ?_ (by rw [hlen]; exact hz)
  refine ⟨.ref _, _, I4.laid (t' := s2.toks) (o := .tup xs.reverse) (fun b ob q => Heap.get?_push_of_some _ q) (Nat.le_refl _) ?_, rfl, q _ (I4.hok.fresh (Nat.le_refl _))⟩
  refine ⟨by rw [List.length_reverse]; exact hz, its.reverse, ?_, ?_⟩
  · exact r.reverse
  · exact IsTup.new _ _
/-- t * 0, t * 1 -/
def rRep01 (K : PySem.W.Frag) : R2 := fun x y H Q => ∃ a xs k, x = .ref a ∧ y = .int k ∧ SqT K H a xs ∧ xs ≠ [] ∧ (k = 0 ∨ k = 1) ∧ (k = 1 → Q (.ref a) H) ∧ (k = 0 → ∀ p, H p = none → Q (.ref p) (upd H p (.tup [])))
theorem op_rep01 : OpR X (binaryOp .Mult) (rRep01 X.K) := by
  intro pins s σ H x y v u Q I rx ry h
  obtain ⟨a, xs, k, rfl, rfl, hx, hne, hk, q1, q0⟩ := h
  cases rx
  obtain ⟨t, rfl⟩ := ry
  obtain ⟨its, r, ht, hz⟩ := I.tuple hx
  obtain ⟨⟨cls, dd, data, sl⟩, ho, hc, n, hd⟩ := id ht
  simp only at hc hd
  subst hc hd
  have hie : its.toArray.isEmpty = false := by
    cases its with
    | nil => exact absurd ((Vals.nil_iff r).mp rfl) hne
    | cons b c => rfl
  refine wpAny_binaryOp_repeat_ref (T := "tuple") (U := "int") (by decide) ⟨_, ho, rfl⟩ (fun s' => typeIs_int s' k t) HT.noFill_tuple_mul F.fills_int_mul F.slot_int_rmul HT.repeat_tuple F.slot_int_index.lookup
    (call_meets F.slot_int_rmul (typeIs_int s k t) F.entry_int_rmul (F.args_int_rmul_2 _ _) (HT.int_rmul_tuple k t a its.toArray n dd sl) ⟨ho, rfl, ⟨_, ho, rfl⟩, ?_⟩)
  rcases hk with rfl | rfl
  · refine call_meets F.slot_tuple_mul ⟨_, ho, rfl⟩ F.entry_tuple_mul (F.args_tuple_mul_2 _ _) (HT.tuple_mul_0 a its.toArray n dd sl t hie) ⟨ho, ?_⟩
    refine ⟨.ref _, _, I.laid (t' := s.toks) (o := .tup []) (fun b ob q => Heap.get?_push_of_some _ q) (Nat.le_refl _) ?_, rfl, q0 rfl _ (I.hok.fresh (Nat.le_refl _))⟩
    exact ⟨Nat.zero_le _, [], .nil, IsTup.new _ _⟩
  · exact call_meets F.slot_tuple_mul ⟨_, ho, rfl⟩ F.entry_tuple_mul (F.args_tuple_mul_2 _ _) (HT.tuple_mul_1 a its.toArray n dd sl t) ⟨ho, ⟨.ref a, H, I, rfl, q1 rfl⟩⟩
end
end L2

set_option Elab.async false
set_option linter.all false
set_option maxRecDepth 100000
namespace L2
open PySem PySem.Spec PyProof.Rows
theorem strsAre_of : ∀ {ys : List Str} {us : List Value}, Vals (ys.map V.str) us → StrsAre us ys := by
  intro ys
  induction ys with
  | nil => intro us r; rw [List.map_nil] at r; cases r; exact .nil
  | cons n ns ih =>
    intro us r
    rw [List.map_cons] at r
    cases r with
    | cons r1 r2 =>
      obtain ⟨t, e⟩ := r1
      subst e
      exact .cons n t (ih r2)
section
variable {X : Cx}
/-- sep.join(list of texts) -/
def rJoin (K : PySem.W.Frag) : V → List V → Hp → VK → Prop := fun x vs H Q => ∃ (sep : Str) (a : Addr) (ys : List Str), x = .str sep ∧ vs = [.ref a] ∧ SqL K H a (ys.map V.str) ∧ (ys.map (·.length)).sum + ys.length * sep.length ≤ 16777216 ∧ Q (.str (Txt.join sep ys)) H
theorem mt_join : MtR X "str.join" (rJoin X.K) := by
  intro pins s σ H x vs v us Q I rx rv h
  obtain ⟨sep, a, ys, rfl, rfl, hq, hok, q⟩ := h
  obtain ⟨t, rfl⟩ := rx
  obtain ⟨u, rfl, ru⟩ := rv.one
  cases ru
  obtain ⟨its, r, pl, hz⟩ := I.list hq
  exact join_list pl.isList (strsAre_of (by simpa using r)) hok fun t' k => ⟨.str (Txt.join sep ys), H, I.tok _, ⟨t', rfl⟩, q⟩
/-- list(range(a, b)) -/
def tLRng2 (ta : TA) : TE := fun σ H Q => ta σ H fun vs H1 => ∃ i j : Int, vs = [.int i, .int j] ∧ (-(2 ^ 62) ≤ i ∧ i < 2 ^ 62 ∧ -(2 ^ 62) ≤ j ∧ j < 2 ^ 62) ∧ (j - i).toNat ≤ 1000000 ∧ ∀ p, H1 p = none → Q (.ref p) (upd H1 p (.lst ((List.range (j - i).toNat).map fun k => V.int (i + (k : Nat)))))
theorem vals_rng {i : Int} : ∀ (its : List Value) (k : Nat), (∀ j v, its[j]? = some v → ∃ t, v = Value.int (i + ((k + j : Nat) : Int)) t) → Vals ((List.range' k its.length).map fun m => V.int (i + (m : Nat))) its
  | [], _, _ => .nil
  | v :: r, k, h => by
    obtain ⟨t, rfl⟩ := h 0 v rfl
    rw [List.length_cons, List.range'_succ, List.map_cons]
    refine .cons ⟨t, by rw [Nat.add_zero]⟩ (vals_rng r (k + 1) fun j v e => ?_)
    obtain ⟨t, e2⟩ := h (j + 1) v e
    exact ⟨t, by rw [e2]; congr 2; omega⟩
theorem pe_listrange {a b : Expr} {ta : TA} {p np p1 pos : Pos} (hc : X.calm = true) (hl : Gl X "list") (hml : X.mg "list" = none) (hg : Gl X "range") (hm : X.mg "range" = none) (ha : PA X [a, b] ta)
    (hs : starEach [.Call (.Name "range" np) [a, b] [] p1] X.env = [(false, eval (.Call (.Name "range" np) [a, b] [] p1) X.env)]) (hs2 : starEach [a, b] X.env = [(false, eval a X.env), (false, eval b X.env)]) (hs1 : starEach [b] X.env = [(false, eval b X.env)]) :
    PE X (.Call (.Name "list" p) [.Call (.Name "range" np) [a, b] [] p1] [] pos) (tLRng2 ta) := by
  intro pins s σ H Q I h
  refine Call_ (ld_blt I hl hml PyProof.Rows.Boot.«list» (PyProof.Rows.callWith_type1 ?_ hs rfl))
  rw [hs]
  refine Calls.spliced_cons ?_
  refine Call_ (ld_blt I hg hm boot_range (PyProof.Rows.callWith_type1 (thn (ha p1 pins s σ H _ I h) fun us s1 ⟨vs, H1, I1, r1, q1⟩ => ?_) (by rw [hs2, hs1]) (by rw [hs1]; rfl)))
  obtain ⟨i, j, e, ⟨q1, q2, q3, q4⟩, hn, q⟩ := q1
  subst e
  cases r1 with
  | cons r rr =>
    cases rr with
    | cons r' rr =>
      cases rr
      obtain ⟨t, rfl⟩ := r
      obtain ⟨t', rfl⟩ := r'
      refine call_range_2 ?_
      refine Calls.spliced_nil ?_
      have I2 : Inv X pins σ H1 { s1 with heap := s1.heap.push { cls := .type "range", data := .fields #[.int i t, .int j t', .int 1 s1.toks] }, toks := s1.toks + 1 } := I1.kept (t' := s1.toks + 1) fun b o e => Heap.get?_push_of_some _ e
      refine call_list_range (n := (j - i).toNat) (I2.ok.hd hc) (IsRange.new ..) (small_one q1 q2 q3 q4) (by rw [rangeSize_one]; split <;> omega) (by omega) fun h' tk acc' c' hk hS' hacc => ?_
      obtain ⟨hsz, hat⟩ := rev_items hacc
      have hv : Vals ((List.range (j - i).toNat).map fun k => V.int (i + (k : Nat))) acc'.toList := by
        have := vals_rng (i := i) acc'.toList 0 fun m v e => by
          obtain ⟨t, e2⟩ := hat m v (by simpa using e)
          exact ⟨t, by rw [e2, Int.mul_one, Nat.zero_add]⟩
        rw [Array.length_toList, hsz] at this
        rw [List.range_eq_range']
        exact this
      refine ⟨.ref _, _, I2.laid (t' := tk) (o := .lst ((List.range (j - i).toNat).map fun k => V.int (i + (k : Nat)))) hk (Nat.le_refl _) ?_, rfl, q _ (I2.hok.fresh (Nat.le_refl _))⟩
      refine ⟨?_, acc'.toList, c', hv, by simpa using hS'⟩
      rw [List.length_map, List.length_range]
      have : (1000000 : Nat) ≤ sizeLine := by rw [sizeLine_eq]; decide
      omega
end
end L2

set_option Elab.async false
set_option linter.all false
set_option maxRecDepth 100000
namespace L2
open PySem PySem.Spec PyProof.Rows
/-! ### the written part by its own name (in a comprehension's block the context hangs on the frame) -/
section
variable {X : Cx} {K : PySem.W.Frag}
theorem pe_fldK {e : Expr} {f : Str} {pos : Pos} {ta : TE} (hK : X.K = K) (he : PE X e ta) (hb : attributeBase e f X.env (eval e X.env) = eval e X.env) : PE X (.Attribute e f pos) (tFld K ta f) := by
  subst hK
  exact pe_fld he hb
theorem ix_listK (hK : X.K = K) : IxR X (rIxL K) := by subst hK; exact ix_list
theorem ix_tupK (hK : X.K = K) : IxR X (rIxT K) := by subst hK; exact ix_tup
theorem op_eqDK (hK : X.K = K) (hu : X.A.units + 64 < cLine) : OpR X (compareOp .Eq) (rEqD K false) := by subst hK; exact op_eqD hu
theorem op_neDK (hK : X.K = K) (hu : X.A.units + 64 < cLine) : OpR X (compareOp .NotEq) (rEqD K true) := by subst hK; exact op_neD hu
theorem op_in_seqK (hK : X.K = K) : OpR X (compareOp .In) (rIn K false) := by subst hK; exact op_in_seq
theorem op_notIn_seqK (hK : X.K = K) : OpR X (compareOp .NotIn) (rIn K true) := by subst hK; exact op_notIn_seq
theorem call_list_ofK (hK : X.K = K) : CallR X (.type "list") (fun xs H Q => ∃ p ys, xs = [.ref p] ∧ (SqL K H p ys ∨ SqT K H p ys) ∧ ∀ l, H l = none → Q (.ref l) (upd H l (.lst ys))) := by subst hK; exact call_list_of
theorem call_len_seqK (hK : X.K = K) : CallR X (.builtin "len") (fun xs H Q => ∃ p ys, xs = [.ref p] ∧ (SqL K H p ys ∨ SqT K H p ys) ∧ Q (.int ys.length) H) := by subst hK; exact call_len_seq
end
/-- a comprehension over a list, its heap changing -/
theorem comp_list {K : PySem.W.Frag} {a : Addr} {H : Hp} {xs : List V} {tt : TT} {te : TE} {cs : St} {F : List V → Hp → Prop} (Pv : Nat → List V → Hp → Prop) (h0 : Pv 0 [] H) (hl : ∀ i ys H, i ≤ xs.length → Pv i ys H → SqL K H a xs)
    (hs : ∀ i x ys H, xs[i]? = some x → Pv i ys H → tt (some x :: cs) H fun b H3 => if b = true then te (some x :: cs) H3 fun y H4 => ys.length ≤ sizeLine ∧ Pv (i + 1) (ys ++ [y]) H4 else Pv (i + 1) ys H3)
    (hd : ∀ ys H, Pv xs.length ys H → ys.length ≤ sizeLine ∧ F ys H) :
    ∃ W : Nat → Nat → List V → Hp → Prop, (∃ m, W 0 m [] H) ∧ CompW (Itl K a) (gName 0) tt te (none :: cs) W F := by
  refine ⟨fun i m ys H' => m = xs.length - i ∧ i ≤ xs.length ∧ Pv i ys H', ⟨xs.length, by simp, Nat.zero_le _, h0⟩, ?_⟩
  rintro i m ys H' ⟨rfl, hi, p⟩
  have q := hl i ys H' hi p
  have S := src_list q
  by_cases hlt : i < xs.length
  · refine .inr ⟨S.go i hlt, fun ys' H'' => Pv (i + 1) ys' H'', fun ys' H'' p' => ⟨xs.length - (i + 1), by omega, rfl, hlt, p'⟩, fun x H'' y => ?_⟩
    obtain ⟨e1, e2⟩ := S.yld i x H'' hlt y
    subst e1
    refine ⟨⟨rfl, fun j v hj => ?_⟩, ?_⟩
    · cases j with
      | zero => cases hj
      | succ j => exact hj
    · exact hs i x ys H'' e2 p
  · have e : i = xs.length := by omega
    subst e
    exact .inl ⟨S.stop, hd ys H' p⟩
theorem in_ints {z : Int} {xs : List Int} : inV (V.int z) (xs.map V.int) = decide (z ∈ xs) := by
  unfold inV
  rw [Bool.eq_iff_iff, List.any_eq_true, decide_eq_true_eq]
  constructor
  · rintro ⟨y, hy, e⟩
    obtain ⟨x, hx, rfl⟩ := List.mem_map.mp hy
    have : (x == z) = true := e
    rw [← eq_of_beq this]
    exact hx
  · intro h
    exact ⟨V.int z, List.mem_map.mpr ⟨z, h, rfl⟩, by show (z == z) = true; simp⟩
end L2

set_option Elab.async false
set_option linter.all false
set_option maxRecDepth 100000
namespace Fl
open PySem L2
/-! ### lists of whole numbers that rise -/
theorem rise_ext : ∀ {l m : List Int}, l.Pairwise (· < ·) → m.Pairwise (· < ·) → (∀ x, x ∈ l ↔ x ∈ m) → l = m
  | [], [], _, _, _ => rfl
  | [], b :: m, _, _, h => by have := (h b).mpr (by simp); simp at this
  | a :: l, [], _, _, h => by have := (h a).mp (by simp); simp at this
  | a :: l, b :: m, hl, hm, h => by
    obtain ⟨l1, l2⟩ := List.pairwise_cons.mp hl
    obtain ⟨m1, m2⟩ := List.pairwise_cons.mp hm
    have e : a = b := by
      rcases List.mem_cons.mp ((h a).mp (by simp)) with z | z
      · exact z
      · rcases List.mem_cons.mp ((h b).mpr (by simp)) with y | y
        · exact y.symm
        · have := m1 a z
          have := l1 b y
          omega
    subst e
    congr 1
    refine rise_ext l2 m2 fun x => ⟨fun hx => ?_, fun hx => ?_⟩
    · rcases List.mem_cons.mp ((h x).mp (List.mem_cons_of_mem _ hx)) with z | z
      · have := l1 x hx
        omega
      · exact z
    · rcases List.mem_cons.mp ((h x).mpr (List.mem_cons_of_mem _ hx)) with z | z
      · have := m1 x hx
        omega
      · exact z
theorem sq_one {x y : Int} (h : x * x + y * y = 1) : (x = 0 ∧ (y = 1 ∨ y = -1)) ∨ (y = 0 ∧ (x = 1 ∨ x = -1)) := by
  have key : ∀ z : Int, z ≤ z * z ∧ -z ≤ z * z := fun z => by
    by_cases hz : 0 ≤ z
    · by_cases h1 : z = 0
      · subst h1; decide
      · have := Int.mul_nonneg hz (show 0 ≤ z - 1 by omega)
        rw [Int.mul_sub, Int.mul_one] at this
        omega
    · have := Int.mul_nonneg (show 0 ≤ -z by omega) (show 0 ≤ -z - 1 by omega)
      rw [Int.mul_sub, Int.neg_mul_neg, Int.mul_one] at this
      omega
  have k1 := key x
  have k2 := key y
  have n1 : 0 ≤ x * x := by omega
  have n2 : 0 ≤ y * y := by omega
  have hx : x = 0 ∨ x = 1 ∨ x = -1 := by omega
  have hy : y = 0 ∨ y = 1 ∨ y = -1 := by omega
  rcases hx with rfl | rfl | rfl <;> rcases hy with rfl | rfl | rfl <;> simp_all
theorem dm_uniq {w c b q : Int} (hw : 0 < w) (h : c = w * b + q) (h0 : 0 ≤ q) (h1 : q < w) : c / w = b ∧ c % w = q := by
  subst h
  constructor
  · rw [Int.add_comm, Int.add_mul_ediv_left _ _ (by omega), Int.ediv_eq_zero_of_lt h0 h1]
    omega
  · rw [Int.add_comm, Int.add_mul_emod_self_left, Int.emod_eq_of_lt h0 h1]

/-! ### floors: wide, high, the signs row by row -/
def sgOk (c : Nat) : Prop := c = 46 ∨ c = 35 ∨ c = 43 ∨ c = 126 ∨ c = 124
structure Good (w h : Nat) (sg : List Nat) : Prop where
  w0 : 1 ≤ w
  w1 : w ≤ 10
  h0 : 1 ≤ h
  h1 : h ≤ 10
  len : sg.length = w * h
  ok : ∀ c ∈ sg, sgOk c
  cell : ∃ c ∈ sg, c ≠ 35
def txt (cs : List Nat) : Str := ⟨cs.toArray⟩
def lineOf (w : Nat) (sg : List Nat) (j : Nat) : Str := txt ((sg.drop (w * j)).take w)
def linesOf (w h : Nat) (sg : List Nat) : List Str := (List.range h).map (lineOf w sg)
theorem len100 {w h : Nat} {sg : List Nat} (g : Good w h sg) : 1 ≤ sg.length ∧ sg.length ≤ 100 := by
  rw [g.len]
  exact ⟨Nat.mul_le_mul g.w0 g.h0, Nat.mul_le_mul g.w1 g.h1⟩
theorem txt_len (cs : List Nat) : (txt cs).length = cs.length := by simp [txt, Str.length]
theorem txt_list (cs : List Nat) : (txt cs).cps.toList = cs := by simp [txt]
theorem line_in {w h : Nat} {j : Nat} (hj : j < h) : w * j + w ≤ w * h := by
  have := Nat.mul_le_mul_left w (show j + 1 ≤ h from hj)
  rw [Nat.mul_add, Nat.mul_one] at this
  exact this
theorem line_len {w h : Nat} {sg : List Nat} (g : Good w h sg) {j : Nat} (hj : j < h) : (lineOf w sg j).length = w := by
  have := line_in (w := w) hj
  have := g.len
  unfold lineOf
  rw [txt_len, List.length_take, List.length_drop]
  omega
theorem lines_len (w h : Nat) (sg : List Nat) : (linesOf w h sg).length = h := by simp [linesOf]
theorem lines_get {w h : Nat} {sg : List Nat} {j : Nat} (hj : j < h) : (linesOf w h sg)[j]? = some (lineOf w sg j) := by
  simp [linesOf, hj]
theorem flat_lines (w : Nat) (sg : List Nat) : ∀ h : Nat, ((List.range h).map fun j => (sg.drop (w * j)).take w).flatten = sg.take (w * h)
  | 0 => by simp
  | h + 1 => by
    rw [List.range_succ, List.map_append, List.flatten_append, flat_lines w sg h, Nat.mul_add, Nat.mul_one]
    simp [List.take_add]
theorem join_flat : ∀ ys : List Str, (Txt.join (Str.ofString "") ys).cps.toList = (ys.map (·.cps.toList)).flatten := by
  have e : ∀ ys : List Str, (Str.join (Str.ofString "") ys).cps.toList = (ys.map (·.cps.toList)).flatten := by
    intro ys
    have e0 : (Str.ofString "").cps.toList = [] := by decide +kernel
    induction ys with
    | nil => rfl
    | cons x r ih =>
      cases r with
      | nil => simp [Str.join]
      | cons y r =>
        show (x ++ Str.ofString "" ++ Str.join (Str.ofString "") (y :: r)).cps.toList = _
        rw [str_app_list, str_app_list, e0, ih]
        simp
  intro ys
  show (Builtin.Str.glued (Str.ofString "") ys).cps.toList = _
  rw [StrLaws.glued_eq_join, e]
theorem join_lines {w h : Nat} {sg : List Nat} (g : Good w h sg) : Txt.join (Str.ofString "") (linesOf w h sg) = txt sg := by
  refine str_ext ?_
  rw [join_flat, txt_list]
  unfold linesOf
  rw [List.map_map]
  have : ((fun x : Str => x.cps.toList) ∘ lineOf w sg) = fun j => (sg.drop (w * j)).take w := by
    funext j
    exact txt_list _
  rw [this, flat_lines, ← g.len, List.take_length]
theorem sum_lines {w h : Nat} {sg : List Nat} (g : Good w h sg) : ((linesOf w h sg).map (·.length)).sum + (linesOf w h sg).length * (Str.ofString "").length ≤ 16777216 := by
  have e0 : (Str.ofString "").length = 0 := by decide +kernel
  have : ∀ n, n ≤ h → (((List.range n).map (lineOf w sg)).map (·.length)).sum = n * w := by
    intro n
    induction n with
    | zero => intro _; simp
    | succ n ih =>
      intro hn
      rw [List.range_succ, List.map_append, List.map_append, List.sum_append, ih (by omega)]
      simp [line_len g (show n < h by omega), Nat.add_mul]
  unfold linesOf
  rw [e0, this h (Nat.le_refl _)]
  have := Nat.mul_le_mul g.h1 g.w1
  omega
theorem ok_chr {w h : Nat} {sg : List Nat} (g : Good w h sg) {c : Nat} (hc : c ∈ sg) : c < 1114112 := by
  rcases g.ok c hc with z | z | z | z | z <;> omega
theorem line_ok {w h : Nat} {sg : List Nat} (g : Good w h sg) {j : Nat} : ∀ c ∈ (lineOf w sg j).cps.toList, sgOk c := by
  intro c hc
  unfold lineOf at hc
  rw [txt_list] at hc
  exact g.ok c (List.mem_of_mem_drop (List.mem_of_mem_take hc))

/-! ### places -/
def at_ (sg : List Nat) (i : Int) : Nat := sg.getD i.toNat 0
def hasI (sg : List Nat) (i : Int) : Bool := decide (0 ≤ i) && decide (i < sg.length) && !decide (at_ sg i = 35)
def hasV (sg : List Nat) : V → Bool
  | .int i => hasI sg i
  | _ => false
def places (sg : List Nat) : List Int := (List.range sg.length).map fun i => ((i : Nat) : Int)
def cellsOf (sg : List Nat) : List Int := (places sg).filter fun i => !decide (at_ sg i = 35)
def chargersOf (sg : List Nat) : List Int := (places sg).filter fun i => decide (at_ sg i = 43)
theorem mem_places {sg : List Nat} {i : Int} : i ∈ places sg ↔ 0 ≤ i ∧ i < sg.length := by
  unfold places
  rw [List.mem_map]
  constructor
  · rintro ⟨j, hj, rfl⟩
    have := List.mem_range.mp hj
    omega
  · intro h
    exact ⟨i.toNat, List.mem_range.mpr (by omega), by omega⟩
theorem rise_places (sg : List Nat) : (places sg).Pairwise (· < ·) := by
  unfold places
  rw [List.pairwise_map]
  exact List.Pairwise.imp (fun h => by omega) List.pairwise_lt_range
theorem cells_has (sg : List Nat) : cellsOf sg = (places sg).filter (hasI sg) := by
  unfold cellsOf
  refine List.filter_congr fun i hi => ?_
  have := mem_places.mp hi
  unfold hasI
  rw [decide_eq_true this.1, decide_eq_true this.2]
  rfl
theorem mem_cells {sg : List Nat} {i : Int} : i ∈ cellsOf sg ↔ hasI sg i = true := by
  rw [cells_has, List.mem_filter, mem_places]
  unfold hasI
  simp only [Bool.and_eq_true, decide_eq_true_eq]
  constructor
  · intro h; exact h.2
  · intro h; exact ⟨h.1, h⟩
def nearOf (w : Nat) (c : Int) : List Int := [c - w] ++ (if c % w > 0 then [c - 1] else []) ++ (if c % w < (w : Int) - 1 then [c + 1] else []) ++ [c + w]
def besideOf (w : Nat) (sg : List Nat) (c : Int) : List Int := (nearOf w c).filter (hasI sg)
def lawBeside (w : Nat) (sg : List Nat) (c : Int) : List Int := (cellsOf sg).filter fun o => decide ((o / w - c / w) * (o / w - c / w) + (o % w - c % w) * (o % w - c % w) = 1)
theorem beside_eq {w h : Nat} {sg : List Nat} (g : Good w h sg) {c : Int} (c0 : 0 ≤ c) (c1 : c < sg.length) : besideOf w sg c = lawBeside w sg c := by
  have w0 : (0 : Int) < w := by have := g.w0; omega
  have q0 := Int.emod_nonneg c (show (w : Int) ≠ 0 by omega)
  have q1 := Int.emod_lt_of_pos c w0
  have qd := Int.mul_ediv_add_emod c w
  refine rise_ext ?_ ?_ fun o => ?_
  · unfold besideOf nearOf
    refine List.Pairwise.filter _ ?_
    by_cases a1 : c % w > 0 <;> by_cases a2 : c % w < (w : Int) - 1 <;> simp [a1, a2, List.pairwise_cons] <;> omega
  · unfold lawBeside cellsOf
    exact ((rise_places sg).filter _).filter _
  · unfold besideOf lawBeside
    rw [List.mem_filter, List.mem_filter, mem_cells, decide_eq_true_eq]
    have mem : o ∈ nearOf w c ↔ o = c - w ∨ (c % w > 0 ∧ o = c - 1) ∨ (c % w < (w : Int) - 1 ∧ o = c + 1) ∨ o = c + w := by
      unfold nearOf
      by_cases a1 : c % w > 0 <;> by_cases a2 : c % w < (w : Int) - 1 <;> simp [a1, a2]
    rw [mem]
    constructor
    · rintro ⟨hm, ho⟩
      refine ⟨ho, ?_⟩
      rcases hm with rfl | ⟨a1, rfl⟩ | ⟨a2, rfl⟩ | rfl
      · obtain ⟨e1, e2⟩ := dm_uniq (c := c - w) (b := c / w - 1) (q := c % w) w0 (by rw [Int.mul_sub, Int.mul_one]; omega) q0 q1
        rw [e1, e2, show c / (w : Int) - 1 - c / w = -1 by omega, Int.sub_self]
        rfl
      · obtain ⟨e1, e2⟩ := dm_uniq (c := c - 1) (b := c / w) (q := c % w - 1) w0 (by omega) (by omega) (by omega)
        rw [e1, e2, show c % (w : Int) - 1 - c % w = -1 by omega, Int.sub_self]
        rfl
      · obtain ⟨e1, e2⟩ := dm_uniq (c := c + 1) (b := c / w) (q := c % w + 1) w0 (by omega) (by omega) (by omega)
        rw [e1, e2, show c % (w : Int) + 1 - c % w = 1 by omega, Int.sub_self]
        rfl
      · obtain ⟨e1, e2⟩ := dm_uniq (c := c + w) (b := c / w + 1) (q := c % w) w0 (by rw [Int.mul_add, Int.mul_one]; omega) q0 q1
        rw [e1, e2, show c / (w : Int) + 1 - c / w = 1 by omega, Int.sub_self]
        rfl
    · rintro ⟨ho, hs⟩
      refine ⟨?_, ho⟩
      have r0 := Int.emod_nonneg o (show (w : Int) ≠ 0 by omega)
      have r1 := Int.emod_lt_of_pos o w0
      have rd := Int.mul_ediv_add_emod o w
      rcases sq_one hs with ⟨x0, y1⟩ | ⟨y0, x1⟩
      · have e : o / (w : Int) = c / w := by omega
        rw [e] at rd
        rcases y1 with y1 | y1
        · exact .inr (.inr (.inl ⟨by omega, by omega⟩))
        · exact .inr (.inl ⟨by omega, by omega⟩)
      · rcases x1 with x1 | x1
        · have e : o / (w : Int) = c / w + 1 := by omega
          rw [e, Int.mul_add, Int.mul_one] at rd
          exact .inr (.inr (.inr (by omega)))
        · have e : o / (w : Int) = c / w - 1 := by omega
          rw [e, Int.mul_sub, Int.mul_one] at rd
          exact .inl (by omega)
/-- the law's own sign -/
theorem sign_eq {w h : Nat} {sg : List Nat} (g : Good w h sg) {c : Int} (c0 : 0 ≤ c) (c1 : c < sg.length) : (c / w).toNat < h ∧ 0 ≤ c / w ∧ 0 ≤ c % w ∧ c % w < w ∧ (lineOf w sg (c / w).toNat).cps.toList[(c % w).toNat]? = some (at_ sg c) := by
  have w0 : (0 : Int) < w := by have := g.w0; omega
  have q0 := Int.emod_nonneg c (show (w : Int) ≠ 0 by omega)
  have q1 := Int.emod_lt_of_pos c w0
  have qd := Int.mul_ediv_add_emod c w
  have d0 := Int.ediv_nonneg c0 (show (0 : Int) ≤ w by omega)
  obtain ⟨j, hj⟩ := Int.eq_ofNat_of_zero_le d0
  obtain ⟨r, hr⟩ := Int.eq_ofNat_of_zero_le q0
  rw [hj, hr] at qd ⊢
  rw [hr] at q1
  have len := g.len
  have hc : c = ((w * j + r : Nat) : Int) := by rw [← qd]; simp
  have hjh : j < h := by
    have : w * j < w * h := by omega
    exact Nat.lt_of_mul_lt_mul_left this
  refine ⟨by simpa using hjh, by omega, by omega, q1, ?_⟩
  unfold lineOf at_
  rw [txt_list, hc]
  simp only [Int.toNat_natCast]
  rw [List.getElem?_take_of_lt (by omega), List.getElem?_drop]
  have : w * j + r < sg.length := by omega
  simp [this]
theorem slice_list {cs : List Nat} {a b : Nat} (hab : a ≤ b) (hb : b ≤ cs.length) : (Txt.slice (txt cs) (some (a : Int)) (some (b : Int))).cps.toList = (cs.drop a).take (b - a) := by
  have hi : Builtin.Str.strSliceIndices (some (a : Int)) (some (b : Int)) 1 (txt cs).length = (List.range (b - a)).map fun k => a + k := by
    rw [txt_len]
    unfold Builtin.Str.strSliceIndices sliceRange
    have e1 : ¬ ((a : Int) < 0) := by omega
    have e2 : ¬ ((b : Int) < 0) := by omega
    simp only [e1, e2, if_false, show (1 : Int) > 0 by decide, if_true, Int.ediv_one]
    have e3 : max 0 (min (a : Int) (cs.length : Int)) = a := by omega
    have e4 : max 0 (min (b : Int) (cs.length : Int)) = b := by omega
    rw [e3, e4]
    have e5 : (if (a : Int) < b then (b : Int) - a + 1 - 1 else 0).toNat = b - a := by split <;> omega
    rw [e5]
    refine List.map_congr_left fun k _ => ?_
    omega
  have pick : ((List.range (b - a)).map fun k => a + k).filterMap ((txt cs).cps[·]?) = (cs.drop a).take (b - a) := by
    refine List.ext_getElem? fun j => ?_
    rw [HT.filterMap_all (g := fun m => cs.getD m 0) (fun m hm => ?_)]
    · rw [List.getElem?_map, List.getElem?_map]
      by_cases hj : j < b - a
      · rw [List.getElem?_range hj, List.getElem?_take_of_lt hj, List.getElem?_drop]
        have : a + j < cs.length := by omega
        simp [this]
      · rw [List.getElem?_eq_none (by simpa using hj), List.getElem?_eq_none (by rw [List.length_take]; omega)]
        rfl
    · obtain ⟨k, hk, rfl⟩ := List.mem_map.mp hm
      have := List.mem_range.mp hk
      have : a + k < cs.length := by omega
      simp [txt, this]
  unfold Txt.slice
  rw [hi]
  split
  · rename_i h
    have h' : b - a = cs.length := by
      simp only [beq_self_eq_true, Bool.true_and, beq_iff_eq, List.length_map, List.length_range, txt_len] at h
      exact h
    have ha : a = 0 := by omega
    have hbl : b = cs.length := by omega
    rw [txt_list, ha, hbl]
    simp
  · show (List.filterMap _ _).toArray.toList = _
    rw [List.toList_toArray]
    exact pick
theorem slice_from1 {cs : List Nat} : (Txt.slice (txt cs) (some (1 : Int)) none).cps.toList = cs.drop 1 := by
  cases cs with
  | nil => rfl
  | cons c r =>
    have hi : Builtin.Str.strSliceIndices (some (1 : Int)) none 1 (txt (c :: r)).length = (List.range r.length).map fun k => 1 + k := by
      rw [txt_len]
      unfold Builtin.Str.strSliceIndices sliceRange
      simp only [show ¬ ((1 : Int) < 0) by decide, if_false, show (1 : Int) > 0 by decide, if_true, Int.ediv_one, List.length_cons]
      have e3 : max 0 (min (1 : Int) ((r.length + 1 : Nat) : Int)) = 1 := by omega
      rw [e3]
      have e5 : (if (1 : Int) < ((r.length + 1 : Nat) : Int) then ((r.length + 1 : Nat) : Int) - 1 + 1 - 1 else 0).toNat = r.length := by split <;> omega
      rw [e5]
      refine List.map_congr_left fun k _ => ?_
      omega
    unfold Txt.slice
    rw [hi, if_neg (by simp [txt_len])]
    show (List.filterMap _ _).toArray.toList = _
    rw [List.toList_toArray, HT.filterMap_all (g := fun m => (c :: r).getD m 0) (fun m hm => ?_)]
    · refine List.ext_getElem? fun j => ?_
      rw [List.getElem?_map, List.getElem?_map]
      by_cases hj : j < r.length
      · rw [List.getElem?_range hj]
        simp [hj, Nat.add_comm 1 j]
      · rw [List.getElem?_eq_none (by simpa using hj), List.getElem?_eq_none (by simpa using hj)]
        rfl
    · obtain ⟨k, hk, rfl⟩ := List.mem_map.mp hm
      have := List.mem_range.mp hk
      simp [txt, Nat.add_comm 1 k, this]
theorem slice_line {w h : Nat} {sg : List Nat} (hl : sg.length = w * h) {j : Nat} (hj : j < h) : Txt.slice (txt sg) (some ((w * j : Nat) : Int)) (some ((w * j + w : Nat) : Int)) = lineOf w sg j := by
  refine str_ext ?_
  have := line_in (w := w) hj
  rw [slice_list (by omega) (by omega), lineOf, txt_list]
  congr 1
  omega
end Fl

set_option Elab.async false
set_option linter.all false
set_option maxRecDepth 100000
namespace Pf
open PySem L2

def top (i : Nat) : Stmt := PySem.Challenge.pw_floorways_k04_floors.main.body.getD i (.Pass ⟨0, 0, 0, 0⟩)
abbrev s_is_whole : Stmt := top 4
abbrev s_is_among : Stmt := top 5
abbrev s_check_row : Stmt := top 12
abbrev s_check_floor : Stmt := top 13
abbrev s_Floor_init : Stmt := inClass (top 14) 0
abbrev s_Floor_has : Stmt := inClass (top 14) 1
abbrev s_Floor_sign : Stmt := inClass (top 14) 2
abbrev s_Floor_column : Stmt := inClass (top 14) 3
abbrev s_Floor_row : Stmt := inClass (top 14) 4
abbrev s_Floor_cells : Stmt := inClass (top 14) 5
abbrev s_Floor_chargers : Stmt := inClass (top 14) 6
abbrev s_Floor_beside : Stmt := inClass (top 14) 7
abbrev s_Lat : Stmt := top 16
abbrev s_Lmixed : Stmt := top 17
abbrev s_Lwhole : Stmt := top 18
abbrev s_Llines : Stmt := top 19
abbrev s_Lsign : Stmt := top 20
abbrev s_Lcells : Stmt := top 21
abbrev s_Lbeside : Stmt := top 22
abbrev s_Lsame : Stmt := top 23
abbrev s_Lfields : Stmt := top 24
abbrev s_Llists : Stmt := top 25
abbrev s_Lthings : Stmt := top 26
abbrev s_Leach : Stmt := top 27
abbrev s_Lasked : Stmt := top 28
abbrev s_law : Stmt := top 29
structure Ad where
  is_whole : Addr
  is_among : Addr
  check_row : Addr
  check_floor : Addr
  Floor_init : Addr
  Floor_has : Addr
  Floor_sign : Addr
  Floor_column : Addr
  Floor_row : Addr
  Floor_cells : Addr
  Floor_chargers : Addr
  Floor_beside : Addr
  Lat : Addr
  Lmixed : Addr
  Lwhole : Addr
  Llines : Addr
  Lsign : Addr
  Lcells : Addr
  Lbeside : Addr
  Lsame : Addr
  Lfields : Addr
  Llists : Addr
  Lthings : Addr
  Leach : Addr
  Lasked : Addr
  law : Addr
  C_Floor : Addr
structure Txt (K : PySem.W.Frag) (mg : Str → Option Value) (ad : Ad) : Prop where
  b_len : mg "len" = none
  b_range : mg "range" = none
  b_isinstance : mg "isinstance" = none
  b_all : mg "all" = none
  b_int : mg "int" = none
  b_bool : mg "bool" = none
  b_str : mg "str" = none
  b_list : mg "list" = none
  c_WALL : ∃ u, mg "WALL" = some u ∧ RelV (V.str (Str.ofString "#")) u
  c_CHARGER : ∃ u, mg "CHARGER" = some u ∧ RelV (V.str (Str.ofString "+")) u
  c_SIGNS : ∃ u, mg "SIGNS" = some u ∧ RelV (V.str (Str.ofString ".#+~|")) u
  c_MOST_ROWS : ∃ u, mg "MOST_ROWS" = some u ∧ RelV (V.int 10) u
  c_MOST_SIGNS : ∃ u, mg "MOST_SIGNS" = some u ∧ RelV (V.int 10) u
  mg_is_whole : mg "is_whole" = some (.ref ad.is_whole)
  k_is_whole : PySem.W.keepIn K (.ref ad.is_whole) = true
  mg_is_among : mg "is_among" = some (.ref ad.is_among)
  k_is_among : PySem.W.keepIn K (.ref ad.is_among) = true
  mg_check_row : mg "check_row" = some (.ref ad.check_row)
  k_check_row : PySem.W.keepIn K (.ref ad.check_row) = true
  mg_check_floor : mg "check_floor" = some (.ref ad.check_floor)
  k_check_floor : PySem.W.keepIn K (.ref ad.check_floor) = true
  mk_Floor : Mk K ad.C_Floor ad.Floor_init
  m_Floor_has : Meth K ad.C_Floor "has" ad.Floor_has
  m_Floor_sign : Meth K ad.C_Floor "sign" ad.Floor_sign
  m_Floor_column : Meth K ad.C_Floor "column" ad.Floor_column
  m_Floor_row : Meth K ad.C_Floor "row" ad.Floor_row
  m_Floor_cells : Meth K ad.C_Floor "cells" ad.Floor_cells
  m_Floor_chargers : Meth K ad.C_Floor "chargers" ad.Floor_chargers
  m_Floor_beside : Meth K ad.C_Floor "beside" ad.Floor_beside
  mg_Lat : mg "_law_at" = some (.ref ad.Lat)
  k_Lat : PySem.W.keepIn K (.ref ad.Lat) = true
  mg_Lmixed : mg "_law_mixed" = some (.ref ad.Lmixed)
  k_Lmixed : PySem.W.keepIn K (.ref ad.Lmixed) = true
  mg_Lwhole : mg "_law_whole" = some (.ref ad.Lwhole)
  k_Lwhole : PySem.W.keepIn K (.ref ad.Lwhole) = true
  mg_Llines : mg "_law_lines" = some (.ref ad.Llines)
  k_Llines : PySem.W.keepIn K (.ref ad.Llines) = true
  mg_Lsign : mg "_law_sign" = some (.ref ad.Lsign)
  k_Lsign : PySem.W.keepIn K (.ref ad.Lsign) = true
  mg_Lcells : mg "_law_cells" = some (.ref ad.Lcells)
  k_Lcells : PySem.W.keepIn K (.ref ad.Lcells) = true
  mg_Lbeside : mg "_law_beside" = some (.ref ad.Lbeside)
  k_Lbeside : PySem.W.keepIn K (.ref ad.Lbeside) = true
  mg_Lsame : mg "_law_same" = some (.ref ad.Lsame)
  k_Lsame : PySem.W.keepIn K (.ref ad.Lsame) = true
  mg_Lfields : mg "_law_fields" = some (.ref ad.Lfields)
  k_Lfields : PySem.W.keepIn K (.ref ad.Lfields) = true
  mg_Llists : mg "_law_lists" = some (.ref ad.Llists)
  k_Llists : PySem.W.keepIn K (.ref ad.Llists) = true
  mg_Lthings : mg "_law_things" = some (.ref ad.Lthings)
  k_Lthings : PySem.W.keepIn K (.ref ad.Lthings) = true
  mg_Leach : mg "_law_each" = some (.ref ad.Leach)
  k_Leach : PySem.W.keepIn K (.ref ad.Leach) = true
  mg_Lasked : mg "_law_asked" = some (.ref ad.Lasked)
  k_Lasked : PySem.W.keepIn K (.ref ad.Lasked) = true
  mg_law : mg "law" = some (.ref ad.law)
  k_law : PySem.W.keepIn K (.ref ad.law) = true
  mg_Floor : mg "Floor" = some (.ref ad.C_Floor)
  cl_Floor : Cls K ad.C_Floor
  n_Floor_wide : NoAttr K ad.C_Floor "wide"
  n_Floor_high : NoAttr K ad.C_Floor "high"
  n_Floor_lines : NoAttr K ad.C_Floor "lines"
  n_Floor_signs : NoAttr K ad.C_Floor "signs"

def isI : V → Bool
  | .int _ => true
  | _ => false
def isIB : V → Bool
  | .int _ => true
  | .bl _ => true
  | _ => false
def isB : V → Bool
  | .bl _ => true
  | _ => false
/-- a value of a built-in kind -/
def TyB (K : PySem.W.Frag) (H : Hp) (x : V) : Prop := ∃ n, TyOf K H x (.type n)
theorem kit_int {K : PySem.W.Frag} {H : Hp} {x : V} {n : String} (h : TyOf K H x (.type n)) : PySem.W.kitOne K (.type n) (.type "int") = some (isIB x) := by
  cases h <;> rfl
theorem kit_bool {K : PySem.W.Frag} {H : Hp} {x : V} {n : String} (h : TyOf K H x (.type n)) : PySem.W.kitOne K (.type n) (.type "bool") = some (isB x) := by
  cases h <;> rfl
def spWhole (K : PySem.W.Frag) : Sp := fun vs H Q _ => ∃ x, vs = [x] ∧ TyB K H x ∧ Q (.bl (isI x)) H
theorem tSeq_cut {t u : TS} {D : Ends} {σ : St} {H : Hp} (M : St → Hp → Prop) (h1 : ∀ nx : St → Hp → Prop, (∀ σ' H', M σ' H' → nx σ' H') → t { D with nx := nx } σ H) (h2 : ∀ σ' H', M σ' H' → u D σ' H') : tSeq t u D σ H := h1 (u D) h2
def amg : V → Int → Int → Bool
  | .int i, lo, hi => decide (lo ≤ i) && decide (i ≤ hi)
  | _, _, _ => false
def spAmong (K : PySem.W.Frag) : Sp := fun vs H Q _ => ∃ x lo hi, vs = [x, .int lo, .int hi] ∧ TyB K H x ∧ Q (.bl (amg x lo hi)) H
def spAt (K : PySem.W.Frag) : Sp := fun vs H Q _ => ∃ (a : Addr) (ns : List Int) (k : Int), vs = [.ref a, .int k] ∧ SqL K H a (ns.map V.int) ∧ ns.length ≤ 63 ∧ 0 ≤ k ∧ k ≤ 1000 ∧ ∀ r : Int, 0 ≤ r → r < 2147483647 → Q (.int r) H

open Fl
def flds (w h : Nat) (l : Addr) (sg : List Nat) : List (Str × V) := putF "signs" (.str (txt sg)) (putF "lines" (.ref l) (putF "high" (.int (h : Int)) (putF "wide" (.int (w : Int)) [])))
theorem f_wide (w h : Nat) (l : Addr) (sg : List Nat) : (flds w h l sg).lookup ("wide" : Str) = some (.int (w : Int)) := by
  unfold flds
  rw [lookup_putF, if_neg (by decide +kernel), lookup_putF, if_neg (by decide +kernel), lookup_putF, if_neg (by decide +kernel), lookup_putF, if_pos rfl]
theorem f_high (w h : Nat) (l : Addr) (sg : List Nat) : (flds w h l sg).lookup ("high" : Str) = some (.int (h : Int)) := by
  unfold flds
  rw [lookup_putF, if_neg (by decide +kernel), lookup_putF, if_neg (by decide +kernel), lookup_putF, if_pos rfl]
theorem f_lines (w h : Nat) (l : Addr) (sg : List Nat) : (flds w h l sg).lookup ("lines" : Str) = some (.ref l) := by
  unfold flds
  rw [lookup_putF, if_neg (by decide +kernel), lookup_putF, if_pos rfl]
theorem f_signs (w h : Nat) (l : Addr) (sg : List Nat) : (flds w h l sg).lookup ("signs" : Str) = some (.str (txt sg)) := by
  unfold flds
  rw [lookup_putF, if_pos rfl]
theorem f_no (w h : Nat) (l : Addr) (sg : List Nat) {m : Str} (h1 : ¬ m = "signs") (h2 : ¬ m = "lines") (h3 : ¬ m = "high") (h4 : ¬ m = "wide") : (flds w h l sg).lookup m = none := by
  unfold flds
  rw [lookup_putF, if_neg h1, lookup_putF, if_neg h2, lookup_putF, if_neg h3, lookup_putF, if_neg h4]
  rfl
def LinesAt (H : Hp) (l : Addr) (w h : Nat) (sg : List Nat) : Prop := H l = some (.lst ((linesOf w h sg).map V.str))
structure FloorAt (C : Addr) (H : Hp) (p : Addr) (w h : Nat) (sg : List Nat) : Prop where
  ob : ∃ dx l, H p = some (.ins C dx (flds w h l sg)) ∧ LinesAt H l w h sg
theorem FloorAt.same {C : Addr} {H H' : Hp} {p : Addr} {w h : Nat} {sg : List Nat} (F : FloorAt C H p w h sg) (s : Same H H') : FloorAt C H' p w h sg := by
  obtain ⟨dx, l, h1, h2⟩ := F.ob
  exact ⟨⟨dx, l, s _ _ h1, s _ _ h2⟩⟩
def sgn : List Nat := (Str.ofString ".#+~|").cps.toList
theorem mem_sgn {c : Nat} (h : sgOk c) : c ∈ (Str.ofString ".#+~|").cps.toList := by
  have e : (Str.ofString ".#+~|").cps.toList = [46, 35, 43, 126, 124] := by decide +kernel
  rw [e]
  rcases h with z | z | z | z | z <;> simp [z]
def inSg : V → V
  | .str z => .bl (decide (z.cps.getD 0 0 ∈ (Str.ofString ".#+~|").cps.toList))
  | _ => .bl false
def isWall : V → V
  | .str z => .bl (decide (z = Str.ofString "#"))
  | _ => .bl false
theorem wall_eq (c : Nat) : ((⟨#[c]⟩ : Str) = Str.ofString "#") ↔ c = 35 := by
  have e : (Str.ofString "#").cps = #[35] := by decide +kernel
  constructor
  · intro h
    have := congrArg Str.cps h
    rw [e] at this
    simpa using this
  · intro h
    subst h
    exact str_ext (by rw [e])
theorem plus_eq (c : Nat) : ((⟨#[c]⟩ : Str) = Str.ofString "+") ↔ c = 43 := by
  have e : (Str.ofString "+").cps = #[43] := by decide +kernel
  constructor
  · intro h
    have := congrArg Str.cps h
    rw [e] at this
    simpa using this
  · intro h
    subst h
    exact str_ext (by rw [e])
theorem at_txt {sg : List Nat} {c : Int} (c0 : 0 ≤ c) (c1 : c < sg.length) : atI (txt sg).cps.toList c = some (at_ sg c) := by
  obtain ⟨j, rfl⟩ := Int.eq_ofNat_of_zero_le c0
  have hj : j < sg.length := by omega
  refine atI_nat ?_
  rw [txt_list]
  unfold at_
  simp [hj]
def isCh (sg : List Nat) : V → Bool
  | .int i => decide (at_ sg i = 43)
  | _ => false
def noWall (sg : List Nat) : V → Bool
  | .int i => !decide (at_ sg i = 35)
  | _ => false
def lineV (w : Nat) (sg : List Nat) : V → V
  | .int i => .str (Txt.slice (txt sg) (some ((w : Int) * i)) (some ((w : Int) * i + (w : Int))))
  | v => v
def spRow : Sp := fun vs H Q _ => ∃ (x : Str) (n : Nat), vs = [.str x, .int (n : Int)] ∧ x.length = n ∧ n ≤ 10 ∧ (∀ c ∈ x.cps.toList, sgOk c) ∧ ∀ H', Same H H' → Q .non H'
def spCheck : Sp := fun vs H Q _ => ∃ (l : Addr) (w h : Nat) (sg : List Nat), vs = [.ref l] ∧ LinesAt H l w h sg ∧ Good w h sg ∧ ∀ H', Same H H' → Q .non H'
def spInit (C : Addr) : Sp := fun vs H Q _ => ∃ (p dx l : Addr) (w h : Nat) (sg : List Nat), vs = [.ref p, .ref l] ∧ H p = some (.ins C dx []) ∧ LinesAt H l w h sg ∧ Good w h sg ∧ ∀ H' dx' l2, H l2 = none → H' p = some (.ins C dx' (flds w h l2 sg)) → LinesAt H' l2 w h sg → (∀ b o, H b = some o → b ≠ p → H' b = some o) → Q .non H'
def spHas (K : PySem.W.Frag) (C : Addr) : Sp := fun vs H Q _ => ∃ (p : Addr) (w h : Nat) (sg : List Nat) (x : V), vs = [.ref p, x] ∧ FloorAt C H p w h sg ∧ Good w h sg ∧ TyB K H x ∧ Q (.bl (hasV sg x)) H
def spSign (C : Addr) : Sp := fun vs H Q _ => ∃ (p : Addr) (w h : Nat) (sg : List Nat) (c : Int), vs = [.ref p, .int c] ∧ FloorAt C H p w h sg ∧ Good w h sg ∧ 0 ≤ c ∧ c < sg.length ∧ Q (chr1 (at_ sg c)) H
def spCol (C : Addr) : Sp := fun vs H Q _ => ∃ (p : Addr) (w h : Nat) (sg : List Nat) (c : Int), vs = [.ref p, .int c] ∧ FloorAt C H p w h sg ∧ Good w h sg ∧ Q (.int (c % w)) H
def spRowOf (C : Addr) : Sp := fun vs H Q _ => ∃ (p : Addr) (w h : Nat) (sg : List Nat) (c : Int), vs = [.ref p, .int c] ∧ FloorAt C H p w h sg ∧ Good w h sg ∧ Q (.int (c / w)) H
def Gives (H : Hp) (Q : VK) (xs : List Int) : Prop := ∀ r H', H r = none → Same H H' → H' r = some (.lst (xs.map V.int)) → Q (.ref r) H'
def spCells (C : Addr) : Sp := fun vs H Q _ => ∃ (p : Addr) (w h : Nat) (sg : List Nat), vs = [.ref p] ∧ FloorAt C H p w h sg ∧ Good w h sg ∧ Gives H Q (cellsOf sg)
def spChargers (C : Addr) : Sp := fun vs H Q _ => ∃ (p : Addr) (w h : Nat) (sg : List Nat), vs = [.ref p] ∧ FloorAt C H p w h sg ∧ Good w h sg ∧ Gives H Q (chargersOf sg)
def spBeside (C : Addr) : Sp := fun vs H Q _ => ∃ (p : Addr) (w h : Nat) (sg : List Nat) (c : Int), vs = [.ref p, .int c] ∧ FloorAt C H p w h sg ∧ Good w h sg ∧ Gives H Q (besideOf w sg c)
def spMixed : Sp := fun vs H Q _ => ∃ (c k : Int), vs = [.int c, .int k] ∧ 0 ≤ c ∧ c < 2147483647 ∧ 0 ≤ k ∧ k ≤ 1000 ∧ ∀ r : Int, 0 ≤ r → r < 2147483647 → Q (.int r) H
def spLines (K : PySem.W.Frag) : Sp := fun vs H Q _ => ∃ (a : Addr) (ns : List Int) (k m : Int), vs = [.ref a, .int k, .int m] ∧ SqL K H a (ns.map V.int) ∧ ns.length ≤ 63 ∧ 0 ≤ k ∧ k ≤ 100 ∧ 1 ≤ m ∧ m ≤ 10 ∧ ∀ l H' w h sg, H l = none → Same H H' → LinesAt H' l w h sg → Good w h sg → Q (.ref l) H'
def spLSign : Sp := fun vs H Q _ => ∃ (l : Addr) (w h : Nat) (sg : List Nat) (c : Int), vs = [.ref l, .int c] ∧ LinesAt H l w h sg ∧ Good w h sg ∧ 0 ≤ c ∧ c < sg.length ∧ Q (chr1 (at_ sg c)) H
def spLCells : Sp := fun vs H Q _ => ∃ (l : Addr) (w h : Nat) (sg : List Nat), vs = [.ref l] ∧ LinesAt H l w h sg ∧ Good w h sg ∧ Gives H Q (cellsOf sg)
def spLBeside : Sp := fun vs H Q _ => ∃ (l : Addr) (w h : Nat) (sg : List Nat) (c : Int), vs = [.ref l, .int c] ∧ LinesAt H l w h sg ∧ Good w h sg ∧ 0 ≤ c ∧ c < sg.length ∧ Gives H Q (lawBeside w sg c)
def spSame : Sp := fun vs H Q _ => ∃ (a b : Addr) (xs : List Int), vs = [.ref a, .ref b] ∧ H a = some (.lst (xs.map V.int)) ∧ H b = some (.lst (xs.map V.int)) ∧ xs.length ≤ 1000 ∧ ∀ H', Same H H' → Q (.bl true) H'
def SameB (k : Addr) (H H' : Hp) : Prop := ∀ b o, H b = some o → b ≠ k → H' b = some o
theorem _root_.L2.Same.b {H H' : Hp} (s : Same H H') (k : Addr) : SameB k H H' := fun b o h _ => s b o h
theorem SameB.trans {k : Addr} {H H1 H2 : Hp} (a : SameB k H H1) (b : SameB k H1 H2) : SameB k H H2 := fun c o h n => b c o (a c o h n) n
/-- what is kept: pairs of lists, alike -/
def KeptOk (H : Hp) (k : Addr) (n : Nat) : Prop := ∃ ts : List Addr, ts.length ≤ n ∧ H k = some (.lst (ts.map V.ref)) ∧ ∀ t ∈ ts, ∃ (a b : Addr) (xs : List Int), H t = some (.tup [.ref a, .ref b]) ∧ H a = some (.lst (xs.map V.int)) ∧ H b = some (.lst (xs.map V.int)) ∧ a ≠ k ∧ b ≠ k ∧ xs.length ≤ 1000
theorem KeptOk.same {H H' : Hp} {k : Addr} {n : Nat} (h : KeptOk H k n) (s : Same H H') : KeptOk H' k n := by
  obtain ⟨ts, h1, h2, h3⟩ := h
  refine ⟨ts, h1, s _ _ h2, fun t ht => ?_⟩
  obtain ⟨a, b, xs, e1, e2, e3, r⟩ := h3 t ht
  exact ⟨a, b, xs, s _ _ e1, s _ _ e2, s _ _ e3, r⟩
theorem KeptOk.mono {H : Hp} {k : Addr} {n m : Nat} (h : KeptOk H k n) (hm : n ≤ m) : KeptOk H k m := by
  obtain ⟨ts, h1, h2, h3⟩ := h
  exact ⟨ts, Nat.le_trans h1 hm, h2, h3⟩
theorem lines_ne {H : Hp} {l k : Addr} {w h : Nat} {sg : List Nat} {n : Nat} (g : Good w h sg) (hl : LinesAt H l w h sg) (hk : KeptOk H k n) : l ≠ k := by
  rintro rfl
  obtain ⟨ts, _, h2, _⟩ := hk
  unfold LinesAt at hl
  rw [h2] at hl
  have e := (HO.lst.inj (Option.some.inj hl))
  have h0 := g.h0
  have l0 : (linesOf w h sg)[0]? = some (lineOf w sg 0) := lines_get (by omega)
  have := congrArg (fun l => l[0]?) e
  simp only [List.getElem?_map, l0, Option.map_some] at this
  cases q : ts[0]? with
  | none => rw [q] at this; cases this
  | some y => rw [q] at this; cases this
theorem LinesAt.sameB {H H' : Hp} {l k : Addr} {w h : Nat} {sg : List Nat} {n : Nat} (hl : LinesAt H l w h sg) (g : Good w h sg) (hk : KeptOk H k n) (s : SameB k H H') : LinesAt H' l w h sg := s _ _ hl (lines_ne g hl hk)
theorem FloorAt.sameB {C : Addr} {H H' : Hp} {p k : Addr} {w h : Nat} {sg : List Nat} {n : Nat} (F : FloorAt C H p w h sg) (g : Good w h sg) (hk : KeptOk H k n) (s : SameB k H H') : FloorAt C H' p w h sg := by
  obtain ⟨dx, l, h1, h2⟩ := F.ob
  obtain ⟨ts, _, h3, _⟩ := id hk
  exact ⟨⟨dx, l, s _ _ h1 (ne_of h1 h3 (by intro z; cases z)), h2.sameB g hk s⟩⟩
/-- one more pair kept: the pair at t, of lists that are not what holds them -/
theorem KeptOk.add {H : Hp} {k t a b : Addr} {n : Nat} {xs : List Int} (h : KeptOk H k n) (ht : H t = some (.tup [.ref a, .ref b])) (ha : H a = some (.lst (xs.map V.int))) (hb : H b = some (.lst (xs.map V.int))) (na : a ≠ k) (nb : b ≠ k) (hx : xs.length ≤ 1000) :
    ∃ ys, H k = some (.lst ys) ∧ ys.length ≤ n ∧ KeptOk (upd H k (.lst (ys ++ [V.ref t]))) k (n + 1) := by
  obtain ⟨ts, h1, h2, h3⟩ := h
  refine ⟨_, h2, by rw [List.length_map]; exact h1, ts ++ [t], by simp; exact h1, by rw [upd_same]; simp, fun u hu => ?_⟩
  have key : ∀ {u a b : Addr} {xs : List Int}, H u = some (.tup [.ref a, .ref b]) → H a = some (.lst (xs.map V.int)) → H b = some (.lst (xs.map V.int)) → a ≠ k → b ≠ k → xs.length ≤ 1000 →
      ∃ (a b : Addr) (xs : List Int), upd H k (.lst (ts.map V.ref ++ [V.ref t])) u = some (.tup [.ref a, .ref b]) ∧ upd H k (.lst (ts.map V.ref ++ [V.ref t])) a = some (.lst (xs.map V.int)) ∧ upd H k (.lst (ts.map V.ref ++ [V.ref t])) b = some (.lst (xs.map V.int)) ∧ a ≠ k ∧ b ≠ k ∧ xs.length ≤ 1000 :=
    fun {u a b xs} e1 e2 e3 n1 n2 hx => ⟨a, b, xs, by rw [upd_ne (ne_of e1 h2 (by intro z; cases z))]; exact e1, by rw [upd_ne n1]; exact e2, by rw [upd_ne n2]; exact e3, n1, n2, hx⟩
  rcases List.mem_append.mp hu with y | y
  · obtain ⟨a, b, xs, e1, e2, e3, n1, n2, hx⟩ := h3 u y
    exact key e1 e2 e3 n1 n2 hx
  · obtain rfl : u = t := by simpa using y
    exact key ht ha hb na nb hx
/-- none of the lists that are kept stands at x -/
def KeptNo (H : Hp) (k x : Addr) : Prop := ∀ ts : List Addr, H k = some (.lst (ts.map V.ref)) → ∀ t ∈ ts, ∀ a b, H t = some (.tup [.ref a, .ref b]) → a ≠ x ∧ b ≠ x
theorem map_ref_inj {ts us : List Addr} (h : ts.map V.ref = us.map V.ref) : ts = us := by
  induction ts generalizing us with
  | nil => cases us with
    | nil => rfl
    | cons u us => cases h
  | cons t ts ih => cases us with
    | nil => cases h
    | cons u us =>
      rw [List.map_cons, List.map_cons] at h
      obtain ⟨e1, e2⟩ := List.cons.inj h
      rw [V.ref.inj e1, ih e2]
theorem kept_no {H0 H : Hp} {k x : Addr} {n : Nat} (h : KeptOk H0 k n) (hx : H0 x = none) (s : Same H0 H) : KeptNo H k x := by
  obtain ⟨ts, _, h2, h3⟩ := h
  intro us hu t ht a b e
  rw [s _ _ h2] at hu
  have := map_ref_inj (HO.lst.inj (Option.some.inj hu))
  subst this
  obtain ⟨a', b', xs, e1, e2, e3, _⟩ := h3 t ht
  rw [s _ _ e1] at e
  have e4 := HO.tup.inj (Option.some.inj e)
  cases e4
  exact ⟨ne_of_none e2 hx, ne_of_none e3 hx⟩
theorem KeptOk.updL {H : Hp} {k x : Addr} {n : Nat} {xs ys : List V} (h : KeptOk H k n) (hn : KeptNo H k x) (hx : H x = some (.lst xs)) (nk : x ≠ k) : KeptOk (upd H x (.lst ys)) k n := by
  obtain ⟨ts, h1, h2, h3⟩ := h
  refine ⟨ts, h1, by rw [upd_ne nk.symm]; exact h2, fun t ht => ?_⟩
  obtain ⟨a, b, zs, e1, e2, e3, r⟩ := h3 t ht
  obtain ⟨n1, n2⟩ := hn ts h2 t ht a b e1
  exact ⟨a, b, zs, by rw [upd_ne (ne_of e1 hx (by intro z; cases z))]; exact e1, by rw [upd_ne n1]; exact e2, by rw [upd_ne n2]; exact e3, r⟩
theorem KeptNo.updL {H : Hp} {k x y : Addr} {xs ys : List V} (h : KeptNo H k y) (hx : H x = some (.lst xs)) (nk : x ≠ k) : KeptNo (upd H x (.lst ys)) k y := by
  intro ts h2 t ht a b e
  rw [upd_ne nk.symm] at h2
  by_cases z : t = x
  · rw [z, upd_same] at e; cases e
  · rw [upd_ne z] at e
    exact h ts h2 t ht a b e
theorem KeptNo.same {H H' : Hp} {k y : Addr} {n : Nat} (h : KeptNo H k y) (hK : KeptOk H k n) (s : Same H H') : KeptNo H' k y := by
  obtain ⟨ts, _, h2, h3⟩ := hK
  intro us hu t ht a b e
  rw [s _ _ h2] at hu
  have := map_ref_inj (HO.lst.inj (Option.some.inj hu))
  subst this
  obtain ⟨a', b', xs, e1, _⟩ := h3 t ht
  rw [s _ _ e1] at e
  have e4 := HO.tup.inj (Option.some.inj e)
  cases e4
  exact h ts h2 t ht a b e1
theorem KeptNo.add {H : Hp} {k t a b y : Addr} {ys : List V} {ts : List Addr} (h : KeptNo H k y) (hk : H k = some (.lst (ts.map V.ref))) (ht : H t = some (.tup [.ref a, .ref b])) (na : a ≠ y) (nb : b ≠ y) : KeptNo (upd H k (.lst (ts.map V.ref ++ [V.ref t]))) k y := by
  intro us hu u hu' a' b' e
  rw [upd_same] at hu
  have e0 : us = ts ++ [t] := (map_ref_inj (by rw [List.map_append]; exact HO.lst.inj (Option.some.inj hu))).symm
  subst e0
  have nuk : u ≠ k := fun z => by rw [z, upd_same] at e; cases e
  rw [upd_ne nuk] at e
  rcases List.mem_append.mp hu' with q | q
  · exact h ts hk u q a' b' e
  · obtain rfl : u = t := by simpa using q
    rw [ht] at e
    have e4 := HO.tup.inj (Option.some.inj e)
    cases e4
    exact ⟨na, nb⟩
/-- a list gets one more, and it is kept beside its copy -/
theorem kept_step {H : Hp} {k x c t : Addr} {m : Nat} {xs : List Int} {v : Int} (hK : KeptOk H k m) (hN : KeptNo H k x) (hx : H x = some (.lst (xs.map V.int))) (nk : x ≠ k) (hl : xs.length < 1000)
    (hc : upd H x (.lst (xs.map V.int ++ [V.int v])) c = none) (ht : upd (upd H x (.lst (xs.map V.int ++ [V.int v]))) c (.lst (xs.map V.int ++ [V.int v])) t = none) :
    ∃ ts : List Addr, upd (upd (upd H x (.lst (xs.map V.int ++ [V.int v]))) c (.lst (xs.map V.int ++ [V.int v]))) t (.tup [.ref x, .ref c]) k = some (.lst (ts.map V.ref)) ∧ ts.length ≤ m ∧
      KeptOk (upd (upd (upd (upd H x (.lst (xs.map V.int ++ [V.int v]))) c (.lst (xs.map V.int ++ [V.int v]))) t (.tup [.ref x, .ref c])) k (.lst (ts.map V.ref ++ [V.ref t]))) k (m + 1) ∧
      (∀ b o, H b = some o → b ≠ k → b ≠ x → upd (upd (upd (upd H x (.lst (xs.map V.int ++ [V.int v]))) c (.lst (xs.map V.int ++ [V.int v]))) t (.tup [.ref x, .ref c])) k (.lst (ts.map V.ref ++ [V.ref t])) b = some o) ∧
      (∀ y, KeptNo H k y → x ≠ y → H y ≠ none → KeptNo (upd (upd (upd (upd H x (.lst (xs.map V.int ++ [V.int v]))) c (.lst (xs.map V.int ++ [V.int v]))) t (.tup [.ref x, .ref c])) k (.lst (ts.map V.ref ++ [V.ref t]))) k y) := by
  have ev : xs.map V.int ++ [V.int v] = (xs ++ [v]).map V.int := by simp
  have K1 := hK.updL (ys := xs.map V.int ++ [V.int v]) hN hx nk
  have sc := same_new (o := HO.lst (xs.map V.int ++ [V.int v])) hc
  have st := same_new (o := HO.tup [.ref x, .ref c]) ht
  have K3 := (K1.same sc).same st
  obtain ⟨ts, t1, t2, _⟩ := id K3
  have hxc : upd (upd (upd H x (.lst (xs.map V.int ++ [V.int v]))) c (.lst (xs.map V.int ++ [V.int v]))) t (.tup [.ref x, .ref c]) x = some (.lst ((xs ++ [v]).map V.int)) := by
    rw [← ev]
    exact st _ _ (sc _ _ upd_same)
  have hcc : upd (upd (upd H x (.lst (xs.map V.int ++ [V.int v]))) c (.lst (xs.map V.int ++ [V.int v]))) t (.tup [.ref x, .ref c]) c = some (.lst ((xs ++ [v]).map V.int)) := by
    rw [← ev]
    exact st _ _ upd_same
  have nck : c ≠ k := fun z => by
    obtain ⟨_, _, h2, _⟩ := K1
    rw [z, h2] at hc
    cases hc
  obtain ⟨ys, hy, _, hA⟩ := K3.add upd_same hxc hcc nk nck (by simp; omega)
  rw [t2] at hy
  cases hy
  refine ⟨ts, t2, t1, hA, fun b o hb nb nx => ?_, fun y hy nxy hny => ?_⟩
  · rw [upd_ne nb]
    exact st _ _ (sc _ _ (by rw [upd_ne nx]; exact hb))
  · have N1 := hy.updL (ys := xs.map V.int ++ [V.int v]) hx nk
    have N3 := (N1.same K1 sc).same (K1.same sc) st
    refine N3.add (ys := []) t2 upd_same nxy (fun z => ?_)
    rw [z, upd_ne nxy.symm] at hc
    exact hny hc
theorem sameB_upd {k : Addr} {H H1 : Hp} {o : HO} (h : SameB k H H1) : SameB k H (upd H1 k o) := fun b u e n => by rw [upd_ne n]; exact h b u e n
theorem strOk_of {x : Str} (h : ∀ c ∈ x.cps.toList, c < 1114112) : PyData.strOk x = true := by
  unfold PyData.strOk
  rw [Array.all_eq_true]
  intro i hi
  have := h x.cps[i] (by simp)
  simpa using this
def spAsk (C : Addr) : Sp := fun vs H Q _ => ∃ (p ls k : Addr) (w h : Nat) (sg : List Nat) (n : Nat), vs = [.ref p, .ref ls, .ref k] ∧ FloorAt C H p w h sg ∧ LinesAt H ls w h sg ∧ Good w h sg ∧ KeptOk H k n ∧ n ≤ 2000 ∧ ∀ H', SameB k H H' → KeptOk H' k (n + 110) → Q (.bl true) H'
def spAskW (C : Addr) : Sp := fun vs H Q _ => ∃ (p ls k : Addr) (c : Int) (w h : Nat) (sg : List Nat) (n : Nat), vs = [.ref p, .ref ls, .ref k, .int c] ∧ FloorAt C H p w h sg ∧ LinesAt H ls w h sg ∧ Good w h sg ∧ KeptOk H k n ∧ n ≤ 2000 ∧ ∀ H', SameB k H H' → KeptOk H' k (n + 110) → Q (.bl true) H'
theorem chargers_eq (sg : List Nat) : chargersOf sg = (cellsOf sg).filter fun i => decide (at_ sg i = 43) := by
  unfold chargersOf cellsOf
  rw [List.filter_filter]
  refine List.filter_congr fun i _ => ?_
  by_cases h : at_ sg i = 43
  · rw [decide_eq_true h, h]
    decide
  · rw [decide_eq_false h]
    rfl
theorem cells_len {w h : Nat} {sg : List Nat} (g : Good w h sg) : (cellsOf sg).length ≤ 100 := by
  have := len100 g
  unfold cellsOf places
  refine Nat.le_trans (List.length_filter_le _ _) ?_
  rw [List.length_map, List.length_range]; omega
theorem chargers_len {w h : Nat} {sg : List Nat} (g : Good w h sg) : (chargersOf sg).length ≤ 100 := by
  have := len100 g
  unfold chargersOf places
  refine Nat.le_trans (List.length_filter_le _ _) ?_
  rw [List.length_map, List.length_range]; omega
def spLaw (K : PySem.W.Frag) : Sp := fun vs H Q _ => ∃ (a : Addr) (ns : List Int), vs = [.ref a] ∧ SqL K H a (ns.map V.int) ∧ ns.length ≤ 63 ∧ ∀ H', Q (.bl true) H'
seal PA PE PS PSs PI PG
section
variable {P : Program} {w : World} {K : PySem.W.Frag} {mg : Str → Option Value} {base : Heap} {ad : Ad}
theorem d_CHARGER : (("CHARGER" : Str) == ("__debug__" : Str)) = false := by decide +kernel
theorem e_CHARGER : (("CHARGER" : Str) == ("__classdict__" : Str)) = false := by decide +kernel
theorem n_CHARGER : ("CHARGER" : Str) ≠ "__name__" := by decide +kernel
theorem d_Floor : (("Floor" : Str) == ("__debug__" : Str)) = false := by decide +kernel
theorem e_Floor : (("Floor" : Str) == ("__classdict__" : Str)) = false := by decide +kernel
theorem n_Floor : ("Floor" : Str) ≠ "__name__" := by decide +kernel
theorem d_MOST_ROWS : (("MOST_ROWS" : Str) == ("__debug__" : Str)) = false := by decide +kernel
theorem e_MOST_ROWS : (("MOST_ROWS" : Str) == ("__classdict__" : Str)) = false := by decide +kernel
theorem n_MOST_ROWS : ("MOST_ROWS" : Str) ≠ "__name__" := by decide +kernel
theorem d_MOST_SIGNS : (("MOST_SIGNS" : Str) == ("__debug__" : Str)) = false := by decide +kernel
theorem e_MOST_SIGNS : (("MOST_SIGNS" : Str) == ("__classdict__" : Str)) = false := by decide +kernel
theorem n_MOST_SIGNS : ("MOST_SIGNS" : Str) ≠ "__name__" := by decide +kernel
theorem d_SIGNS : (("SIGNS" : Str) == ("__debug__" : Str)) = false := by decide +kernel
theorem e_SIGNS : (("SIGNS" : Str) == ("__classdict__" : Str)) = false := by decide +kernel
theorem n_SIGNS : ("SIGNS" : Str) ≠ "__name__" := by decide +kernel
theorem d_WALL : (("WALL" : Str) == ("__debug__" : Str)) = false := by decide +kernel
theorem e_WALL : (("WALL" : Str) == ("__classdict__" : Str)) = false := by decide +kernel
theorem n_WALL : ("WALL" : Str) ≠ "__name__" := by decide +kernel
theorem d__law_across : (("_law_across" : Str) == ("__debug__" : Str)) = false := by decide +kernel
theorem e__law_across : (("_law_across" : Str) == ("__classdict__" : Str)) = false := by decide +kernel
theorem n__law_across : ("_law_across" : Str) ≠ "__name__" := by decide +kernel
theorem d__law_asked : (("_law_asked" : Str) == ("__debug__" : Str)) = false := by decide +kernel
theorem e__law_asked : (("_law_asked" : Str) == ("__classdict__" : Str)) = false := by decide +kernel
theorem n__law_asked : ("_law_asked" : Str) ≠ "__name__" := by decide +kernel
theorem d__law_at : (("_law_at" : Str) == ("__debug__" : Str)) = false := by decide +kernel
theorem e__law_at : (("_law_at" : Str) == ("__classdict__" : Str)) = false := by decide +kernel
theorem n__law_at : ("_law_at" : Str) ≠ "__name__" := by decide +kernel
theorem d__law_at_here : (("_law_at_here" : Str) == ("__debug__" : Str)) = false := by decide +kernel
theorem e__law_at_here : (("_law_at_here" : Str) == ("__classdict__" : Str)) = false := by decide +kernel
theorem n__law_at_here : ("_law_at_here" : Str) ≠ "__name__" := by decide +kernel
theorem d__law_beside : (("_law_beside" : Str) == ("__debug__" : Str)) = false := by decide +kernel
theorem e__law_beside : (("_law_beside" : Str) == ("__classdict__" : Str)) = false := by decide +kernel
theorem n__law_beside : ("_law_beside" : Str) ≠ "__name__" := by decide +kernel
theorem d__law_both : (("_law_both" : Str) == ("__debug__" : Str)) = false := by decide +kernel
theorem e__law_both : (("_law_both" : Str) == ("__classdict__" : Str)) = false := by decide +kernel
theorem n__law_both : ("_law_both" : Str) ≠ "__name__" := by decide +kernel
theorem d__law_cell : (("_law_cell" : Str) == ("__debug__" : Str)) = false := by decide +kernel
theorem e__law_cell : (("_law_cell" : Str) == ("__classdict__" : Str)) = false := by decide +kernel
theorem n__law_cell : ("_law_cell" : Str) ≠ "__name__" := by decide +kernel
theorem d__law_cells : (("_law_cells" : Str) == ("__debug__" : Str)) = false := by decide +kernel
theorem e__law_cells : (("_law_cells" : Str) == ("__classdict__" : Str)) = false := by decide +kernel
theorem n__law_cells : ("_law_cells" : Str) ≠ "__name__" := by decide +kernel
theorem d__law_cells_here : (("_law_cells_here" : Str) == ("__debug__" : Str)) = false := by decide +kernel
theorem e__law_cells_here : (("_law_cells_here" : Str) == ("__classdict__" : Str)) = false := by decide +kernel
theorem n__law_cells_here : ("_law_cells_here" : Str) ≠ "__name__" := by decide +kernel
theorem d__law_down : (("_law_down" : Str) == ("__debug__" : Str)) = false := by decide +kernel
theorem e__law_down : (("_law_down" : Str) == ("__classdict__" : Str)) = false := by decide +kernel
theorem n__law_down : ("_law_down" : Str) ≠ "__name__" := by decide +kernel
theorem d__law_due : (("_law_due" : Str) == ("__debug__" : Str)) = false := by decide +kernel
theorem e__law_due : (("_law_due" : Str) == ("__classdict__" : Str)) = false := by decide +kernel
theorem n__law_due : ("_law_due" : Str) ≠ "__name__" := by decide +kernel
theorem d__law_each : (("_law_each" : Str) == ("__debug__" : Str)) = false := by decide +kernel
theorem e__law_each : (("_law_each" : Str) == ("__classdict__" : Str)) = false := by decide +kernel
theorem n__law_each : ("_law_each" : Str) ≠ "__name__" := by decide +kernel
theorem d__law_fields : (("_law_fields" : Str) == ("__debug__" : Str)) = false := by decide +kernel
theorem e__law_fields : (("_law_fields" : Str) == ("__classdict__" : Str)) = false := by decide +kernel
theorem n__law_fields : ("_law_fields" : Str) ≠ "__name__" := by decide +kernel
theorem d__law_first : (("_law_first" : Str) == ("__debug__" : Str)) = false := by decide +kernel
theorem e__law_first : (("_law_first" : Str) == ("__classdict__" : Str)) = false := by decide +kernel
theorem n__law_first : ("_law_first" : Str) ≠ "__name__" := by decide +kernel
theorem d__law_floor : (("_law_floor" : Str) == ("__debug__" : Str)) = false := by decide +kernel
theorem e__law_floor : (("_law_floor" : Str) == ("__classdict__" : Str)) = false := by decide +kernel
theorem n__law_floor : ("_law_floor" : Str) ≠ "__name__" := by decide +kernel
theorem d__law_floors : (("_law_floors" : Str) == ("__debug__" : Str)) = false := by decide +kernel
theorem e__law_floors : (("_law_floors" : Str) == ("__classdict__" : Str)) = false := by decide +kernel
theorem n__law_floors : ("_law_floors" : Str) ≠ "__name__" := by decide +kernel
theorem d__law_found : (("_law_found" : Str) == ("__debug__" : Str)) = false := by decide +kernel
theorem e__law_found : (("_law_found" : Str) == ("__classdict__" : Str)) = false := by decide +kernel
theorem n__law_found : ("_law_found" : Str) ≠ "__name__" := by decide +kernel
theorem d__law_handed : (("_law_handed" : Str) == ("__debug__" : Str)) = false := by decide +kernel
theorem e__law_handed : (("_law_handed" : Str) == ("__classdict__" : Str)) = false := by decide +kernel
theorem n__law_handed : ("_law_handed" : Str) ≠ "__name__" := by decide +kernel
theorem d__law_high : (("_law_high" : Str) == ("__debug__" : Str)) = false := by decide +kernel
theorem e__law_high : (("_law_high" : Str) == ("__classdict__" : Str)) = false := by decide +kernel
theorem n__law_high : ("_law_high" : Str) ≠ "__name__" := by decide +kernel
theorem d__law_j : (("_law_j" : Str) == ("__debug__" : Str)) = false := by decide +kernel
theorem e__law_j : (("_law_j" : Str) == ("__classdict__" : Str)) = false := by decide +kernel
theorem n__law_j : ("_law_j" : Str) ≠ "__name__" := by decide +kernel
theorem d__law_k : (("_law_k" : Str) == ("__debug__" : Str)) = false := by decide +kernel
theorem e__law_k : (("_law_k" : Str) == ("__classdict__" : Str)) = false := by decide +kernel
theorem n__law_k : ("_law_k" : Str) ≠ "__name__" := by decide +kernel
theorem d__law_kept : (("_law_kept" : Str) == ("__debug__" : Str)) = false := by decide +kernel
theorem e__law_kept : (("_law_kept" : Str) == ("__classdict__" : Str)) = false := by decide +kernel
theorem n__law_kept : ("_law_kept" : Str) ≠ "__name__" := by decide +kernel
theorem d__law_lines : (("_law_lines" : Str) == ("__debug__" : Str)) = false := by decide +kernel
theorem e__law_lines : (("_law_lines" : Str) == ("__classdict__" : Str)) = false := by decide +kernel
theorem n__law_lines : ("_law_lines" : Str) ≠ "__name__" := by decide +kernel
theorem d__law_lines_here : (("_law_lines_here" : Str) == ("__debug__" : Str)) = false := by decide +kernel
theorem e__law_lines_here : (("_law_lines_here" : Str) == ("__classdict__" : Str)) = false := by decide +kernel
theorem n__law_lines_here : ("_law_lines_here" : Str) ≠ "__name__" := by decide +kernel
theorem d__law_lists : (("_law_lists" : Str) == ("__debug__" : Str)) = false := by decide +kernel
theorem e__law_lists : (("_law_lists" : Str) == ("__classdict__" : Str)) = false := by decide +kernel
theorem n__law_lists : ("_law_lists" : Str) ≠ "__name__" := by decide +kernel
theorem d__law_mixed : (("_law_mixed" : Str) == ("__debug__" : Str)) = false := by decide +kernel
theorem e__law_mixed : (("_law_mixed" : Str) == ("__classdict__" : Str)) = false := by decide +kernel
theorem n__law_mixed : ("_law_mixed" : Str) ≠ "__name__" := by decide +kernel
theorem d__law_most : (("_law_most" : Str) == ("__debug__" : Str)) = false := by decide +kernel
theorem e__law_most : (("_law_most" : Str) == ("__classdict__" : Str)) = false := by decide +kernel
theorem n__law_most : ("_law_most" : Str) ≠ "__name__" := by decide +kernel
theorem d__law_one : (("_law_one" : Str) == ("__debug__" : Str)) = false := by decide +kernel
theorem e__law_one : (("_law_one" : Str) == ("__classdict__" : Str)) = false := by decide +kernel
theorem n__law_one : ("_law_one" : Str) ≠ "__name__" := by decide +kernel
theorem d__law_other : (("_law_other" : Str) == ("__debug__" : Str)) = false := by decide +kernel
theorem e__law_other : (("_law_other" : Str) == ("__classdict__" : Str)) = false := by decide +kernel
theorem n__law_other : ("_law_other" : Str) ≠ "__name__" := by decide +kernel
theorem d__law_place : (("_law_place" : Str) == ("__debug__" : Str)) = false := by decide +kernel
theorem e__law_place : (("_law_place" : Str) == ("__classdict__" : Str)) = false := by decide +kernel
theorem n__law_place : ("_law_place" : Str) ≠ "__name__" := by decide +kernel
theorem d__law_same : (("_law_same" : Str) == ("__debug__" : Str)) = false := by decide +kernel
theorem e__law_same : (("_law_same" : Str) == ("__classdict__" : Str)) = false := by decide +kernel
theorem n__law_same : ("_law_same" : Str) ≠ "__name__" := by decide +kernel
theorem d__law_script : (("_law_script" : Str) == ("__debug__" : Str)) = false := by decide +kernel
theorem e__law_script : (("_law_script" : Str) == ("__classdict__" : Str)) = false := by decide +kernel
theorem n__law_script : ("_law_script" : Str) ≠ "__name__" := by decide +kernel
theorem d__law_sign : (("_law_sign" : Str) == ("__debug__" : Str)) = false := by decide +kernel
theorem e__law_sign : (("_law_sign" : Str) == ("__classdict__" : Str)) = false := by decide +kernel
theorem n__law_sign : ("_law_sign" : Str) ≠ "__name__" := by decide +kernel
theorem d__law_signs : (("_law_signs" : Str) == ("__debug__" : Str)) = false := by decide +kernel
theorem e__law_signs : (("_law_signs" : Str) == ("__classdict__" : Str)) = false := by decide +kernel
theorem n__law_signs : ("_law_signs" : Str) ≠ "__name__" := by decide +kernel
theorem d__law_text : (("_law_text" : Str) == ("__debug__" : Str)) = false := by decide +kernel
theorem e__law_text : (("_law_text" : Str) == ("__classdict__" : Str)) = false := by decide +kernel
theorem n__law_text : ("_law_text" : Str) ≠ "__name__" := by decide +kernel
theorem d__law_thing : (("_law_thing" : Str) == ("__debug__" : Str)) = false := by decide +kernel
theorem e__law_thing : (("_law_thing" : Str) == ("__classdict__" : Str)) = false := by decide +kernel
theorem n__law_thing : ("_law_thing" : Str) ≠ "__name__" := by decide +kernel
theorem d__law_things : (("_law_things" : Str) == ("__debug__" : Str)) = false := by decide +kernel
theorem e__law_things : (("_law_things" : Str) == ("__classdict__" : Str)) = false := by decide +kernel
theorem n__law_things : ("_law_things" : Str) ≠ "__name__" := by decide +kernel
theorem d__law_told : (("_law_told" : Str) == ("__debug__" : Str)) = false := by decide +kernel
theorem e__law_told : (("_law_told" : Str) == ("__classdict__" : Str)) = false := by decide +kernel
theorem n__law_told : ("_law_told" : Str) ≠ "__name__" := by decide +kernel
theorem d__law_turn : (("_law_turn" : Str) == ("__debug__" : Str)) = false := by decide +kernel
theorem e__law_turn : (("_law_turn" : Str) == ("__classdict__" : Str)) = false := by decide +kernel
theorem n__law_turn : ("_law_turn" : Str) ≠ "__name__" := by decide +kernel
theorem d__law_which : (("_law_which" : Str) == ("__debug__" : Str)) = false := by decide +kernel
theorem e__law_which : (("_law_which" : Str) == ("__classdict__" : Str)) = false := by decide +kernel
theorem n__law_which : ("_law_which" : Str) ≠ "__name__" := by decide +kernel
theorem d__law_whole : (("_law_whole" : Str) == ("__debug__" : Str)) = false := by decide +kernel
theorem e__law_whole : (("_law_whole" : Str) == ("__classdict__" : Str)) = false := by decide +kernel
theorem n__law_whole : ("_law_whole" : Str) ≠ "__name__" := by decide +kernel
theorem d__law_wide : (("_law_wide" : Str) == ("__debug__" : Str)) = false := by decide +kernel
theorem e__law_wide : (("_law_wide" : Str) == ("__classdict__" : Str)) = false := by decide +kernel
theorem n__law_wide : ("_law_wide" : Str) ≠ "__name__" := by decide +kernel
theorem d_all : (("all" : Str) == ("__debug__" : Str)) = false := by decide +kernel
theorem e_all : (("all" : Str) == ("__classdict__" : Str)) = false := by decide +kernel
theorem n_all : ("all" : Str) ≠ "__name__" := by decide +kernel
theorem d_bool : (("bool" : Str) == ("__debug__" : Str)) = false := by decide +kernel
theorem e_bool : (("bool" : Str) == ("__classdict__" : Str)) = false := by decide +kernel
theorem n_bool : ("bool" : Str) ≠ "__name__" := by decide +kernel
theorem d_cell : (("cell" : Str) == ("__debug__" : Str)) = false := by decide +kernel
theorem e_cell : (("cell" : Str) == ("__classdict__" : Str)) = false := by decide +kernel
theorem n_cell : ("cell" : Str) ≠ "__name__" := by decide +kernel
theorem d_check_floor : (("check_floor" : Str) == ("__debug__" : Str)) = false := by decide +kernel
theorem e_check_floor : (("check_floor" : Str) == ("__classdict__" : Str)) = false := by decide +kernel
theorem n_check_floor : ("check_floor" : Str) ≠ "__name__" := by decide +kernel
theorem d_check_row : (("check_row" : Str) == ("__debug__" : Str)) = false := by decide +kernel
theorem e_check_row : (("check_row" : Str) == ("__classdict__" : Str)) = false := by decide +kernel
theorem n_check_row : ("check_row" : Str) ≠ "__name__" := by decide +kernel
theorem d_int : (("int" : Str) == ("__debug__" : Str)) = false := by decide +kernel
theorem e_int : (("int" : Str) == ("__classdict__" : Str)) = false := by decide +kernel
theorem n_int : ("int" : Str) ≠ "__name__" := by decide +kernel
theorem d_is_among : (("is_among" : Str) == ("__debug__" : Str)) = false := by decide +kernel
theorem e_is_among : (("is_among" : Str) == ("__classdict__" : Str)) = false := by decide +kernel
theorem n_is_among : ("is_among" : Str) ≠ "__name__" := by decide +kernel
theorem d_is_whole : (("is_whole" : Str) == ("__debug__" : Str)) = false := by decide +kernel
theorem e_is_whole : (("is_whole" : Str) == ("__classdict__" : Str)) = false := by decide +kernel
theorem n_is_whole : ("is_whole" : Str) ≠ "__name__" := by decide +kernel
theorem d_isinstance : (("isinstance" : Str) == ("__debug__" : Str)) = false := by decide +kernel
theorem e_isinstance : (("isinstance" : Str) == ("__classdict__" : Str)) = false := by decide +kernel
theorem n_isinstance : ("isinstance" : Str) ≠ "__name__" := by decide +kernel
theorem d_least : (("least" : Str) == ("__debug__" : Str)) = false := by decide +kernel
theorem e_least : (("least" : Str) == ("__classdict__" : Str)) = false := by decide +kernel
theorem n_least : ("least" : Str) ≠ "__name__" := by decide +kernel
theorem d_len : (("len" : Str) == ("__debug__" : Str)) = false := by decide +kernel
theorem e_len : (("len" : Str) == ("__classdict__" : Str)) = false := by decide +kernel
theorem n_len : ("len" : Str) ≠ "__name__" := by decide +kernel
theorem d_line : (("line" : Str) == ("__debug__" : Str)) = false := by decide +kernel
theorem e_line : (("line" : Str) == ("__classdict__" : Str)) = false := by decide +kernel
theorem n_line : ("line" : Str) ≠ "__name__" := by decide +kernel
theorem d_lines : (("lines" : Str) == ("__debug__" : Str)) = false := by decide +kernel
theorem e_lines : (("lines" : Str) == ("__classdict__" : Str)) = false := by decide +kernel
theorem n_lines : ("lines" : Str) ≠ "__name__" := by decide +kernel
theorem d_list : (("list" : Str) == ("__debug__" : Str)) = false := by decide +kernel
theorem e_list : (("list" : Str) == ("__classdict__" : Str)) = false := by decide +kernel
theorem n_list : ("list" : Str) ≠ "__name__" := by decide +kernel
theorem d_most : (("most" : Str) == ("__debug__" : Str)) = false := by decide +kernel
theorem e_most : (("most" : Str) == ("__classdict__" : Str)) = false := by decide +kernel
theorem n_most : ("most" : Str) ≠ "__name__" := by decide +kernel
theorem d_near : (("near" : Str) == ("__debug__" : Str)) = false := by decide +kernel
theorem e_near : (("near" : Str) == ("__classdict__" : Str)) = false := by decide +kernel
theorem n_near : ("near" : Str) ≠ "__name__" := by decide +kernel
theorem d_range : (("range" : Str) == ("__debug__" : Str)) = false := by decide +kernel
theorem e_range : (("range" : Str) == ("__classdict__" : Str)) = false := by decide +kernel
theorem n_range : ("range" : Str) ≠ "__name__" := by decide +kernel
theorem d_self : (("self" : Str) == ("__debug__" : Str)) = false := by decide +kernel
theorem e_self : (("self" : Str) == ("__classdict__" : Str)) = false := by decide +kernel
theorem n_self : ("self" : Str) ≠ "__name__" := by decide +kernel
theorem d_str : (("str" : Str) == ("__debug__" : Str)) = false := by decide +kernel
theorem e_str : (("str" : Str) == ("__classdict__" : Str)) = false := by decide +kernel
theorem n_str : ("str" : Str) ≠ "__name__" := by decide +kernel
theorem d_thing : (("thing" : Str) == ("__debug__" : Str)) = false := by decide +kernel
theorem e_thing : (("thing" : Str) == ("__classdict__" : Str)) = false := by decide +kernel
theorem n_thing : ("thing" : Str) ≠ "__name__" := by decide +kernel
theorem d_wide : (("wide" : Str) == ("__debug__" : Str)) = false := by decide +kernel
theorem e_wide : (("wide" : Str) == ("__classdict__" : Str)) = false := by decide +kernel
theorem n_wide : ("wide" : Str) ≠ "__name__" := by decide +kernel
theorem l_is_whole_thing : (defScope s_is_whole).names.lookup ("thing" : Str) = some .local := by decide +kernel
theorem v_is_whole_thing : Vis (defScope s_is_whole) "thing" := Or.inl l_is_whole_thing
theorem l_is_among_thing : (defScope s_is_among).names.lookup ("thing" : Str) = some .local := by decide +kernel
theorem v_is_among_thing : Vis (defScope s_is_among) "thing" := Or.inl l_is_among_thing
theorem l_is_among_least : (defScope s_is_among).names.lookup ("least" : Str) = some .local := by decide +kernel
theorem v_is_among_least : Vis (defScope s_is_among) "least" := Or.inl l_is_among_least
theorem l_is_among_most : (defScope s_is_among).names.lookup ("most" : Str) = some .local := by decide +kernel
theorem v_is_among_most : Vis (defScope s_is_among) "most" := Or.inl l_is_among_most
theorem l_check_row_line : (defScope s_check_row).names.lookup ("line" : Str) = some .local := by decide +kernel
theorem v_check_row_line : Vis (defScope s_check_row) "line" := Or.inl l_check_row_line
theorem l_check_row_wide : (defScope s_check_row).names.lookup ("wide" : Str) = some .local := by decide +kernel
theorem v_check_row_wide : Vis (defScope s_check_row) "wide" := Or.inl l_check_row_wide
theorem l_check_floor_lines : (defScope s_check_floor).names.lookup ("lines" : Str) = some .local := by decide +kernel
theorem v_check_floor_lines : Vis (defScope s_check_floor) "lines" := Or.inl l_check_floor_lines
theorem l_check_floor_line : (defScope s_check_floor).names.lookup ("line" : Str) = some .local := by decide +kernel
theorem v_check_floor_line : Vis (defScope s_check_floor) "line" := Or.inl l_check_floor_line
theorem l_Floor_init_self : (defScope s_Floor_init).names.lookup ("self" : Str) = some .local := by decide +kernel
theorem v_Floor_init_self : Vis (defScope s_Floor_init) "self" := Or.inl l_Floor_init_self
theorem l_Floor_init_lines : (defScope s_Floor_init).names.lookup ("lines" : Str) = some .local := by decide +kernel
theorem v_Floor_init_lines : Vis (defScope s_Floor_init) "lines" := Or.inl l_Floor_init_lines
theorem l_Floor_has_self : (defScope s_Floor_has).names.lookup ("self" : Str) = some .local := by decide +kernel
theorem v_Floor_has_self : Vis (defScope s_Floor_has) "self" := Or.inl l_Floor_has_self
theorem l_Floor_has_cell : (defScope s_Floor_has).names.lookup ("cell" : Str) = some .local := by decide +kernel
theorem v_Floor_has_cell : Vis (defScope s_Floor_has) "cell" := Or.inl l_Floor_has_cell
theorem l_Floor_sign_self : (defScope s_Floor_sign).names.lookup ("self" : Str) = some .local := by decide +kernel
theorem v_Floor_sign_self : Vis (defScope s_Floor_sign) "self" := Or.inl l_Floor_sign_self
theorem l_Floor_sign_cell : (defScope s_Floor_sign).names.lookup ("cell" : Str) = some .local := by decide +kernel
theorem v_Floor_sign_cell : Vis (defScope s_Floor_sign) "cell" := Or.inl l_Floor_sign_cell
theorem l_Floor_column_self : (defScope s_Floor_column).names.lookup ("self" : Str) = some .local := by decide +kernel
theorem v_Floor_column_self : Vis (defScope s_Floor_column) "self" := Or.inl l_Floor_column_self
theorem l_Floor_column_cell : (defScope s_Floor_column).names.lookup ("cell" : Str) = some .local := by decide +kernel
theorem v_Floor_column_cell : Vis (defScope s_Floor_column) "cell" := Or.inl l_Floor_column_cell
theorem l_Floor_row_self : (defScope s_Floor_row).names.lookup ("self" : Str) = some .local := by decide +kernel
theorem v_Floor_row_self : Vis (defScope s_Floor_row) "self" := Or.inl l_Floor_row_self
theorem l_Floor_row_cell : (defScope s_Floor_row).names.lookup ("cell" : Str) = some .local := by decide +kernel
theorem v_Floor_row_cell : Vis (defScope s_Floor_row) "cell" := Or.inl l_Floor_row_cell
theorem l_Floor_cells_self : (defScope s_Floor_cells).names.lookup ("self" : Str) = some .cell := by decide +kernel
theorem v_Floor_cells_self : Vis (defScope s_Floor_cells) "self" := Or.inr (Or.inl l_Floor_cells_self)
theorem l_Floor_chargers_self : (defScope s_Floor_chargers).names.lookup ("self" : Str) = some .cell := by decide +kernel
theorem v_Floor_chargers_self : Vis (defScope s_Floor_chargers) "self" := Or.inr (Or.inl l_Floor_chargers_self)
theorem l_Floor_beside_self : (defScope s_Floor_beside).names.lookup ("self" : Str) = some .cell := by decide +kernel
theorem v_Floor_beside_self : Vis (defScope s_Floor_beside) "self" := Or.inr (Or.inl l_Floor_beside_self)
theorem l_Floor_beside_cell : (defScope s_Floor_beside).names.lookup ("cell" : Str) = some .local := by decide +kernel
theorem v_Floor_beside_cell : Vis (defScope s_Floor_beside) "cell" := Or.inl l_Floor_beside_cell
theorem l_Floor_beside_near : (defScope s_Floor_beside).names.lookup ("near" : Str) = some .local := by decide +kernel
theorem v_Floor_beside_near : Vis (defScope s_Floor_beside) "near" := Or.inl l_Floor_beside_near
theorem l_Lat__law_script : (defScope s_Lat).names.lookup ("_law_script" : Str) = some .local := by decide +kernel
theorem v_Lat__law_script : Vis (defScope s_Lat) "_law_script" := Or.inl l_Lat__law_script
theorem l_Lat__law_k : (defScope s_Lat).names.lookup ("_law_k" : Str) = some .local := by decide +kernel
theorem v_Lat__law_k : Vis (defScope s_Lat) "_law_k" := Or.inl l_Lat__law_k
theorem l_Lat__law_cell : (defScope s_Lat).names.lookup ("_law_cell" : Str) = some .local := by decide +kernel
theorem v_Lat__law_cell : Vis (defScope s_Lat) "_law_cell" := Or.inl l_Lat__law_cell
theorem l_Lmixed__law_cell : (defScope s_Lmixed).names.lookup ("_law_cell" : Str) = some .local := by decide +kernel
theorem v_Lmixed__law_cell : Vis (defScope s_Lmixed) "_law_cell" := Or.inl l_Lmixed__law_cell
theorem l_Lmixed__law_k : (defScope s_Lmixed).names.lookup ("_law_k" : Str) = some .local := by decide +kernel
theorem v_Lmixed__law_k : Vis (defScope s_Lmixed) "_law_k" := Or.inl l_Lmixed__law_k
theorem l_Lwhole__law_thing : (defScope s_Lwhole).names.lookup ("_law_thing" : Str) = some .local := by decide +kernel
theorem v_Lwhole__law_thing : Vis (defScope s_Lwhole) "_law_thing" := Or.inl l_Lwhole__law_thing
theorem l_Llines__law_script : (defScope s_Llines).names.lookup ("_law_script" : Str) = some .local := by decide +kernel
theorem v_Llines__law_script : Vis (defScope s_Llines) "_law_script" := Or.inl l_Llines__law_script
theorem l_Llines__law_k : (defScope s_Llines).names.lookup ("_law_k" : Str) = some .local := by decide +kernel
theorem v_Llines__law_k : Vis (defScope s_Llines) "_law_k" := Or.inl l_Llines__law_k
theorem l_Llines__law_most : (defScope s_Llines).names.lookup ("_law_most" : Str) = some .local := by decide +kernel
theorem v_Llines__law_most : Vis (defScope s_Llines) "_law_most" := Or.inl l_Llines__law_most
theorem l_Llines__law_first : (defScope s_Llines).names.lookup ("_law_first" : Str) = some .local := by decide +kernel
theorem v_Llines__law_first : Vis (defScope s_Llines) "_law_first" := Or.inl l_Llines__law_first
theorem l_Llines__law_wide : (defScope s_Llines).names.lookup ("_law_wide" : Str) = some .cell := by decide +kernel
theorem v_Llines__law_wide : Vis (defScope s_Llines) "_law_wide" := Or.inr (Or.inl l_Llines__law_wide)
theorem l_Llines__law_high : (defScope s_Llines).names.lookup ("_law_high" : Str) = some .local := by decide +kernel
theorem v_Llines__law_high : Vis (defScope s_Llines) "_law_high" := Or.inl l_Llines__law_high
theorem l_Llines__law_signs : (defScope s_Llines).names.lookup ("_law_signs" : Str) = some .local := by decide +kernel
theorem v_Llines__law_signs : Vis (defScope s_Llines) "_law_signs" := Or.inl l_Llines__law_signs
theorem l_Llines__law_text : (defScope s_Llines).names.lookup ("_law_text" : Str) = some .cell := by decide +kernel
theorem v_Llines__law_text : Vis (defScope s_Llines) "_law_text" := Or.inr (Or.inl l_Llines__law_text)
theorem l_Llines__law_j : (defScope s_Llines).names.lookup ("_law_j" : Str) = some .local := by decide +kernel
theorem v_Llines__law_j : Vis (defScope s_Llines) "_law_j" := Or.inl l_Llines__law_j
theorem l_Lsign__law_lines_here : (defScope s_Lsign).names.lookup ("_law_lines_here" : Str) = some .local := by decide +kernel
theorem v_Lsign__law_lines_here : Vis (defScope s_Lsign) "_law_lines_here" := Or.inl l_Lsign__law_lines_here
theorem l_Lsign__law_cell : (defScope s_Lsign).names.lookup ("_law_cell" : Str) = some .local := by decide +kernel
theorem v_Lsign__law_cell : Vis (defScope s_Lsign) "_law_cell" := Or.inl l_Lsign__law_cell
theorem l_Lcells__law_lines_here : (defScope s_Lcells).names.lookup ("_law_lines_here" : Str) = some .cell := by decide +kernel
theorem v_Lcells__law_lines_here : Vis (defScope s_Lcells) "_law_lines_here" := Or.inr (Or.inl l_Lcells__law_lines_here)
theorem l_Lbeside__law_lines_here : (defScope s_Lbeside).names.lookup ("_law_lines_here" : Str) = some .local := by decide +kernel
theorem v_Lbeside__law_lines_here : Vis (defScope s_Lbeside) "_law_lines_here" := Or.inl l_Lbeside__law_lines_here
theorem l_Lbeside__law_cell : (defScope s_Lbeside).names.lookup ("_law_cell" : Str) = some .local := by decide +kernel
theorem v_Lbeside__law_cell : Vis (defScope s_Lbeside) "_law_cell" := Or.inl l_Lbeside__law_cell
theorem l_Lbeside__law_wide : (defScope s_Lbeside).names.lookup ("_law_wide" : Str) = some .local := by decide +kernel
theorem v_Lbeside__law_wide : Vis (defScope s_Lbeside) "_law_wide" := Or.inl l_Lbeside__law_wide
theorem l_Lbeside__law_found : (defScope s_Lbeside).names.lookup ("_law_found" : Str) = some .local := by decide +kernel
theorem v_Lbeside__law_found : Vis (defScope s_Lbeside) "_law_found" := Or.inl l_Lbeside__law_found
theorem l_Lbeside__law_other : (defScope s_Lbeside).names.lookup ("_law_other" : Str) = some .local := by decide +kernel
theorem v_Lbeside__law_other : Vis (defScope s_Lbeside) "_law_other" := Or.inl l_Lbeside__law_other
theorem l_Lbeside__law_down : (defScope s_Lbeside).names.lookup ("_law_down" : Str) = some .local := by decide +kernel
theorem v_Lbeside__law_down : Vis (defScope s_Lbeside) "_law_down" := Or.inl l_Lbeside__law_down
theorem l_Lbeside__law_across : (defScope s_Lbeside).names.lookup ("_law_across" : Str) = some .local := by decide +kernel
theorem v_Lbeside__law_across : Vis (defScope s_Lbeside) "_law_across" := Or.inl l_Lbeside__law_across
theorem l_Lsame__law_found : (defScope s_Lsame).names.lookup ("_law_found" : Str) = some .local := by decide +kernel
theorem v_Lsame__law_found : Vis (defScope s_Lsame) "_law_found" := Or.inl l_Lsame__law_found
theorem l_Lsame__law_due : (defScope s_Lsame).names.lookup ("_law_due" : Str) = some .local := by decide +kernel
theorem v_Lsame__law_due : Vis (defScope s_Lsame) "_law_due" := Or.inl l_Lsame__law_due
theorem l_Lfields__law_floor : (defScope s_Lfields).names.lookup ("_law_floor" : Str) = some .local := by decide +kernel
theorem v_Lfields__law_floor : Vis (defScope s_Lfields) "_law_floor" := Or.inl l_Lfields__law_floor
theorem l_Lfields__law_lines_here : (defScope s_Lfields).names.lookup ("_law_lines_here" : Str) = some .local := by decide +kernel
theorem v_Lfields__law_lines_here : Vis (defScope s_Lfields) "_law_lines_here" := Or.inl l_Lfields__law_lines_here
theorem l_Lfields__law_kept : (defScope s_Lfields).names.lookup ("_law_kept" : Str) = some .local := by decide +kernel
theorem v_Lfields__law_kept : Vis (defScope s_Lfields) "_law_kept" := Or.inl l_Lfields__law_kept
theorem l_Llists__law_floor : (defScope s_Llists).names.lookup ("_law_floor" : Str) = some .local := by decide +kernel
theorem v_Llists__law_floor : Vis (defScope s_Llists) "_law_floor" := Or.inl l_Llists__law_floor
theorem l_Llists__law_lines_here : (defScope s_Llists).names.lookup ("_law_lines_here" : Str) = some .cell := by decide +kernel
theorem v_Llists__law_lines_here : Vis (defScope s_Llists) "_law_lines_here" := Or.inr (Or.inl l_Llists__law_lines_here)
theorem l_Llists__law_kept : (defScope s_Llists).names.lookup ("_law_kept" : Str) = some .local := by decide +kernel
theorem v_Llists__law_kept : Vis (defScope s_Llists) "_law_kept" := Or.inl l_Llists__law_kept
theorem l_Llists__law_told : (defScope s_Llists).names.lookup ("_law_told" : Str) = some .local := by decide +kernel
theorem v_Llists__law_told : Vis (defScope s_Llists) "_law_told" := Or.inl l_Llists__law_told
theorem l_Llists__law_cells_here : (defScope s_Llists).names.lookup ("_law_cells_here" : Str) = some .local := by decide +kernel
theorem v_Llists__law_cells_here : Vis (defScope s_Llists) "_law_cells_here" := Or.inl l_Llists__law_cells_here
theorem l_Llists__law_one : (defScope s_Llists).names.lookup ("_law_one" : Str) = some .local := by decide +kernel
theorem v_Llists__law_one : Vis (defScope s_Llists) "_law_one" := Or.inl l_Llists__law_one
theorem l_Lthings__law_floor : (defScope s_Lthings).names.lookup ("_law_floor" : Str) = some .local := by decide +kernel
theorem v_Lthings__law_floor : Vis (defScope s_Lthings) "_law_floor" := Or.inl l_Lthings__law_floor
theorem l_Lthings__law_lines_here : (defScope s_Lthings).names.lookup ("_law_lines_here" : Str) = some .local := by decide +kernel
theorem v_Lthings__law_lines_here : Vis (defScope s_Lthings) "_law_lines_here" := Or.inl l_Lthings__law_lines_here
theorem l_Lthings__law_kept : (defScope s_Lthings).names.lookup ("_law_kept" : Str) = some .local := by decide +kernel
theorem v_Lthings__law_kept : Vis (defScope s_Lthings) "_law_kept" := Or.inl l_Lthings__law_kept
theorem l_Lthings__law_most : (defScope s_Lthings).names.lookup ("_law_most" : Str) = some .local := by decide +kernel
theorem v_Lthings__law_most : Vis (defScope s_Lthings) "_law_most" := Or.inl l_Lthings__law_most
theorem l_Lthings__law_cells_here : (defScope s_Lthings).names.lookup ("_law_cells_here" : Str) = some .local := by decide +kernel
theorem v_Lthings__law_cells_here : Vis (defScope s_Lthings) "_law_cells_here" := Or.inl l_Lthings__law_cells_here
theorem l_Lthings__law_thing : (defScope s_Lthings).names.lookup ("_law_thing" : Str) = some .local := by decide +kernel
theorem v_Lthings__law_thing : Vis (defScope s_Lthings) "_law_thing" := Or.inl l_Lthings__law_thing
theorem l_Leach__law_floor : (defScope s_Leach).names.lookup ("_law_floor" : Str) = some .local := by decide +kernel
theorem v_Leach__law_floor : Vis (defScope s_Leach) "_law_floor" := Or.inl l_Leach__law_floor
theorem l_Leach__law_lines_here : (defScope s_Leach).names.lookup ("_law_lines_here" : Str) = some .local := by decide +kernel
theorem v_Leach__law_lines_here : Vis (defScope s_Leach) "_law_lines_here" := Or.inl l_Leach__law_lines_here
theorem l_Leach__law_kept : (defScope s_Leach).names.lookup ("_law_kept" : Str) = some .local := by decide +kernel
theorem v_Leach__law_kept : Vis (defScope s_Leach) "_law_kept" := Or.inl l_Leach__law_kept
theorem l_Leach__law_cell : (defScope s_Leach).names.lookup ("_law_cell" : Str) = some .local := by decide +kernel
theorem v_Leach__law_cell : Vis (defScope s_Leach) "_law_cell" := Or.inl l_Leach__law_cell
theorem l_Leach__law_found : (defScope s_Leach).names.lookup ("_law_found" : Str) = some .local := by decide +kernel
theorem v_Leach__law_found : Vis (defScope s_Leach) "_law_found" := Or.inl l_Leach__law_found
theorem l_Leach__law_place : (defScope s_Leach).names.lookup ("_law_place" : Str) = some .local := by decide +kernel
theorem v_Leach__law_place : Vis (defScope s_Leach) "_law_place" := Or.inl l_Leach__law_place
theorem l_Lasked__law_floor : (defScope s_Lasked).names.lookup ("_law_floor" : Str) = some .local := by decide +kernel
theorem v_Lasked__law_floor : Vis (defScope s_Lasked) "_law_floor" := Or.inl l_Lasked__law_floor
theorem l_Lasked__law_lines_here : (defScope s_Lasked).names.lookup ("_law_lines_here" : Str) = some .local := by decide +kernel
theorem v_Lasked__law_lines_here : Vis (defScope s_Lasked) "_law_lines_here" := Or.inl l_Lasked__law_lines_here
theorem l_Lasked__law_kept : (defScope s_Lasked).names.lookup ("_law_kept" : Str) = some .local := by decide +kernel
theorem v_Lasked__law_kept : Vis (defScope s_Lasked) "_law_kept" := Or.inl l_Lasked__law_kept
theorem l_Lasked__law_which : (defScope s_Lasked).names.lookup ("_law_which" : Str) = some .local := by decide +kernel
theorem v_Lasked__law_which : Vis (defScope s_Lasked) "_law_which" := Or.inl l_Lasked__law_which
theorem l_law__law_script : (defScope s_law).names.lookup ("_law_script" : Str) = some .local := by decide +kernel
theorem v_law__law_script : Vis (defScope s_law) "_law_script" := Or.inl l_law__law_script
theorem l_law__law_both : (defScope s_law).names.lookup ("_law_both" : Str) = some .local := by decide +kernel
theorem v_law__law_both : Vis (defScope s_law) "_law_both" := Or.inl l_law__law_both
theorem l_law__law_handed : (defScope s_law).names.lookup ("_law_handed" : Str) = some .local := by decide +kernel
theorem v_law__law_handed : Vis (defScope s_law) "_law_handed" := Or.inl l_law__law_handed
theorem l_law__law_floors : (defScope s_law).names.lookup ("_law_floors" : Str) = some .local := by decide +kernel
theorem v_law__law_floors : Vis (defScope s_law) "_law_floors" := Or.inl l_law__law_floors
theorem l_law__law_kept : (defScope s_law).names.lookup ("_law_kept" : Str) = some .local := by decide +kernel
theorem v_law__law_kept : Vis (defScope s_law) "_law_kept" := Or.inl l_law__law_kept
theorem l_law__law_turn : (defScope s_law).names.lookup ("_law_turn" : Str) = some .local := by decide +kernel
theorem v_law__law_turn : Vis (defScope s_law) "_law_turn" := Or.inl l_law__law_turn
theorem l_law__law_cell : (defScope s_law).names.lookup ("_law_cell" : Str) = some .local := by decide +kernel
theorem v_law__law_cell : Vis (defScope s_law) "_law_cell" := Or.inl l_law__law_cell
theorem l_law__law_k : (defScope s_law).names.lookup ("_law_k" : Str) = some .local := by decide +kernel
theorem v_law__law_k : Vis (defScope s_law) "_law_k" := Or.inl l_law__law_k
theorem l_law__law_which : (defScope s_law).names.lookup ("_law_which" : Str) = some .local := by decide +kernel
theorem v_law__law_which : Vis (defScope s_law) "_law_which" := Or.inl l_law__law_which
theorem l_law__law_at_here : (defScope s_law).names.lookup ("_law_at_here" : Str) = some .local := by decide +kernel
theorem v_law__law_at_here : Vis (defScope s_law) "_law_at_here" := Or.inl l_law__law_at_here
theorem g_Floor_init_check_floor : (defScope s_Floor_init).names.lookup ("check_floor" : Str) = some .globalImplicit := by decide +kernel
theorem g_Floor_init_len : (defScope s_Floor_init).names.lookup ("len" : Str) = some .globalImplicit := by decide +kernel
theorem g_Floor_init_list : (defScope s_Floor_init).names.lookup ("list" : Str) = some .globalImplicit := by decide +kernel
theorem g_Floor_cells_len : (defScope s_Floor_cells).names.lookup ("len" : Str) = some .globalImplicit := by decide +kernel
theorem g_Floor_cells_range : (defScope s_Floor_cells).names.lookup ("range" : Str) = some .globalImplicit := by decide +kernel
theorem g_Floor_chargers_len : (defScope s_Floor_chargers).names.lookup ("len" : Str) = some .globalImplicit := by decide +kernel
theorem g_Floor_chargers_range : (defScope s_Floor_chargers).names.lookup ("range" : Str) = some .globalImplicit := by decide +kernel
theorem g_Floor_has_WALL : (defScope s_Floor_has).names.lookup ("WALL" : Str) = some .globalImplicit := by decide +kernel
theorem g_Floor_has_is_among : (defScope s_Floor_has).names.lookup ("is_among" : Str) = some .globalImplicit := by decide +kernel
theorem g_Floor_has_len : (defScope s_Floor_has).names.lookup ("len" : Str) = some .globalImplicit := by decide +kernel
theorem g_Lasked__law_each : (defScope s_Lasked).names.lookup ("_law_each" : Str) = some .globalImplicit := by decide +kernel
theorem g_Lasked__law_fields : (defScope s_Lasked).names.lookup ("_law_fields" : Str) = some .globalImplicit := by decide +kernel
theorem g_Lasked__law_lists : (defScope s_Lasked).names.lookup ("_law_lists" : Str) = some .globalImplicit := by decide +kernel
theorem g_Lasked__law_things : (defScope s_Lasked).names.lookup ("_law_things" : Str) = some .globalImplicit := by decide +kernel
theorem g_Lat_len : (defScope s_Lat).names.lookup ("len" : Str) = some .globalImplicit := by decide +kernel
theorem g_Lbeside__law_cells : (defScope s_Lbeside).names.lookup ("_law_cells" : Str) = some .globalImplicit := by decide +kernel
theorem g_Lbeside_len : (defScope s_Lbeside).names.lookup ("len" : Str) = some .globalImplicit := by decide +kernel
theorem g_Lcells_len : (defScope s_Lcells).names.lookup ("len" : Str) = some .globalImplicit := by decide +kernel
theorem g_Lcells_range : (defScope s_Lcells).names.lookup ("range" : Str) = some .globalImplicit := by decide +kernel
theorem g_Leach__law_beside : (defScope s_Leach).names.lookup ("_law_beside" : Str) = some .globalImplicit := by decide +kernel
theorem g_Leach__law_cells : (defScope s_Leach).names.lookup ("_law_cells" : Str) = some .globalImplicit := by decide +kernel
theorem g_Leach__law_same : (defScope s_Leach).names.lookup ("_law_same" : Str) = some .globalImplicit := by decide +kernel
theorem g_Leach__law_sign : (defScope s_Leach).names.lookup ("_law_sign" : Str) = some .globalImplicit := by decide +kernel
theorem g_Leach__law_whole : (defScope s_Leach).names.lookup ("_law_whole" : Str) = some .globalImplicit := by decide +kernel
theorem g_Leach_len : (defScope s_Leach).names.lookup ("len" : Str) = some .globalImplicit := by decide +kernel
theorem g_Leach_list : (defScope s_Leach).names.lookup ("list" : Str) = some .globalImplicit := by decide +kernel
theorem g_Lfields__law_whole : (defScope s_Lfields).names.lookup ("_law_whole" : Str) = some .globalImplicit := by decide +kernel
theorem g_Lfields_isinstance : (defScope s_Lfields).names.lookup ("isinstance" : Str) = some .globalImplicit := by decide +kernel
theorem g_Lfields_len : (defScope s_Lfields).names.lookup ("len" : Str) = some .globalImplicit := by decide +kernel
theorem g_Lfields_list : (defScope s_Lfields).names.lookup ("list" : Str) = some .globalImplicit := by decide +kernel
theorem g_Llines__law_at : (defScope s_Llines).names.lookup ("_law_at" : Str) = some .globalImplicit := by decide +kernel
theorem g_Llines__law_mixed : (defScope s_Llines).names.lookup ("_law_mixed" : Str) = some .globalImplicit := by decide +kernel
theorem g_Llines_len : (defScope s_Llines).names.lookup ("len" : Str) = some .globalImplicit := by decide +kernel
theorem g_Llines_range : (defScope s_Llines).names.lookup ("range" : Str) = some .globalImplicit := by decide +kernel
theorem g_Llists__law_cells : (defScope s_Llists).names.lookup ("_law_cells" : Str) = some .globalImplicit := by decide +kernel
theorem g_Llists__law_same : (defScope s_Llists).names.lookup ("_law_same" : Str) = some .globalImplicit := by decide +kernel
theorem g_Llists_len : (defScope s_Llists).names.lookup ("len" : Str) = some .globalImplicit := by decide +kernel
theorem g_Llists_list : (defScope s_Llists).names.lookup ("list" : Str) = some .globalImplicit := by decide +kernel
theorem g_Lsame_isinstance : (defScope s_Lsame).names.lookup ("isinstance" : Str) = some .globalImplicit := by decide +kernel
theorem g_Lsame_list : (defScope s_Lsame).names.lookup ("list" : Str) = some .globalImplicit := by decide +kernel
theorem g_Lsign_len : (defScope s_Lsign).names.lookup ("len" : Str) = some .globalImplicit := by decide +kernel
theorem g_Lthings__law_cells : (defScope s_Lthings).names.lookup ("_law_cells" : Str) = some .globalImplicit := by decide +kernel
theorem g_Lthings_bool : (defScope s_Lthings).names.lookup ("bool" : Str) = some .globalImplicit := by decide +kernel
theorem g_Lthings_isinstance : (defScope s_Lthings).names.lookup ("isinstance" : Str) = some .globalImplicit := by decide +kernel
theorem g_Lthings_len : (defScope s_Lthings).names.lookup ("len" : Str) = some .globalImplicit := by decide +kernel
theorem g_Lthings_list : (defScope s_Lthings).names.lookup ("list" : Str) = some .globalImplicit := by decide +kernel
theorem g_Lthings_range : (defScope s_Lthings).names.lookup ("range" : Str) = some .globalImplicit := by decide +kernel
theorem g_Lwhole_bool : (defScope s_Lwhole).names.lookup ("bool" : Str) = some .globalImplicit := by decide +kernel
theorem g_Lwhole_int : (defScope s_Lwhole).names.lookup ("int" : Str) = some .globalImplicit := by decide +kernel
theorem g_Lwhole_isinstance : (defScope s_Lwhole).names.lookup ("isinstance" : Str) = some .globalImplicit := by decide +kernel
theorem g_check_floor_MOST_ROWS : (defScope s_check_floor).names.lookup ("MOST_ROWS" : Str) = some .globalImplicit := by decide +kernel
theorem g_check_floor_MOST_SIGNS : (defScope s_check_floor).names.lookup ("MOST_SIGNS" : Str) = some .globalImplicit := by decide +kernel
theorem g_check_floor_all : (defScope s_check_floor).names.lookup ("all" : Str) = some .globalImplicit := by decide +kernel
theorem g_check_floor_check_row : (defScope s_check_floor).names.lookup ("check_row" : Str) = some .globalImplicit := by decide +kernel
theorem g_check_floor_is_among : (defScope s_check_floor).names.lookup ("is_among" : Str) = some .globalImplicit := by decide +kernel
theorem g_check_floor_isinstance : (defScope s_check_floor).names.lookup ("isinstance" : Str) = some .globalImplicit := by decide +kernel
theorem g_check_floor_len : (defScope s_check_floor).names.lookup ("len" : Str) = some .globalImplicit := by decide +kernel
theorem g_check_floor_list : (defScope s_check_floor).names.lookup ("list" : Str) = some .globalImplicit := by decide +kernel
theorem g_check_floor_str : (defScope s_check_floor).names.lookup ("str" : Str) = some .globalImplicit := by decide +kernel
theorem g_check_row_all : (defScope s_check_row).names.lookup ("all" : Str) = some .globalImplicit := by decide +kernel
theorem g_check_row_isinstance : (defScope s_check_row).names.lookup ("isinstance" : Str) = some .globalImplicit := by decide +kernel
theorem g_check_row_len : (defScope s_check_row).names.lookup ("len" : Str) = some .globalImplicit := by decide +kernel
theorem g_check_row_str : (defScope s_check_row).names.lookup ("str" : Str) = some .globalImplicit := by decide +kernel
theorem g_is_among_is_whole : (defScope s_is_among).names.lookup ("is_whole" : Str) = some .globalImplicit := by decide +kernel
theorem g_is_whole_bool : (defScope s_is_whole).names.lookup ("bool" : Str) = some .globalImplicit := by decide +kernel
theorem g_is_whole_int : (defScope s_is_whole).names.lookup ("int" : Str) = some .globalImplicit := by decide +kernel
theorem g_is_whole_isinstance : (defScope s_is_whole).names.lookup ("isinstance" : Str) = some .globalImplicit := by decide +kernel
theorem g_law_Floor : (defScope s_law).names.lookup ("Floor" : Str) = some .globalImplicit := by decide +kernel
theorem g_law__law_asked : (defScope s_law).names.lookup ("_law_asked" : Str) = some .globalImplicit := by decide +kernel
theorem g_law__law_at : (defScope s_law).names.lookup ("_law_at" : Str) = some .globalImplicit := by decide +kernel
theorem g_law__law_lines : (defScope s_law).names.lookup ("_law_lines" : Str) = some .globalImplicit := by decide +kernel
theorem g_law_len : (defScope s_law).names.lookup ("len" : Str) = some .globalImplicit := by decide +kernel
theorem g_law_range : (defScope s_law).names.lookup ("range" : Str) = some .globalImplicit := by decide +kernel
theorem sc_is_whole : FnScope ["thing"] ["thing"] (defScope s_is_whole) := ⟨rfl, rfl, rfl, by decide +kernel, rfl, by decide +kernel, by decide +kernel⟩
set_option maxHeartbeats 4000000 in
local macro_rules | `(tactic| walk_at "RD") => `(tactic| simp only [tNever, tFor_eq, iRng1, iRng2, gTup, gTupL, gCons, gNil, tRevT, rRep01, rCatT, rCat, rRep, rJoin, tLRng2, tSeq, tAsg, tOp, tUn, tVar, tC, rI0, rI, rU, tTest, tIfS, tNext, tRet, tRetN, tDrop, gName, tCB, tCons, tNil, tAndV, tOrV, tNotV, tAnd, tOr, tNot, tB, tIf, tChain, tCall, tBM, tBM0, tLst, tTup, tNoPart, tPart, tSlS, tSl, tBreak, tCont, rSlA, rSlL, rPopAt, rIn, rIxL, rIxT, rIxS, rEq, rNe, scal, rAppend, rPop, rIndex, tFld, sFld, tMeth, tMake, tDNewK, gSub, rSetL, tJoinRev, tComp, sComp, capσ, iStr, iList, iTup, rEqD, cxK, cxA, cxKc, cxAc, L2.start, List.map_cons, List.map_nil, List.length_cons, List.length_nil, List.replicate_succ, List.replicate_zero, List.cons_append, List.nil_append, List.append_nil, Nat.reduceAdd, Nat.reduceSub, List.set_cons_zero, List.set_cons_succ, List.getElem?_cons_zero, List.getElem?_cons_succ, Option.getD_some, Option.getD_none, Option.some.injEq, V.int.injEq, V.ref.injEq, V.bl.injEq, V.str.injEq, V.ty.injEq, exists_eq_left', exists_eq_left, exists_and_left, and_assoc, List.cons.injEq, and_true, true_and, decide_eq_true_eq, Bool.not_eq_true', decide_eq_false_iff_not, Bool.false_eq_true, if_false, if_true, reduceIte, Bool.not_true, Bool.not_false, beq_self_eq_true])
theorem ok_is_whole {fd : FuncData} (F : Fun K "is_whole" "is_whole" s_is_whole ad.is_whole fd) (T : Txt K mg ad) : FnOk P w K mg base CX0 1 ad.is_whole fd ["thing"] (spWhole K) := by
  refine F.ok sc_is_whole (fun vs H Q E h => ?_) (fun cdv A outer s H vs Q E HR h => ?_)
  · obtain ⟨x, rfl, _⟩ := h
    rfl
  · obtain ⟨x, rfl, ty, hq⟩ := h
    have ND := sc_is_whole.nd
    have HU0 := HR.units0
    have HU := HR.units
    have hA := HR.hd
    have hz : (100000 : Nat) ≤ sizeLine := by rw [sizeLine_eq]; decide
    refine ⟨_, (pss_one (ps_ret (pe_and (pe_callB call_isinst (gl_of g_is_whole_isinstance) T.b_isinstance PyProof.Rows.Boot.«isinstance» (pa_cons (pe_var (i := 0) (x := "thing") rfl (vis_of v_is_whole_thing) d_thing e_thing) (pa_cons (pe_bltn (v := .ty "int") (gl_of g_is_whole_int) T.b_int PyProof.Rows.Boot.«int» rfl (hn := n_int) (hd := d_int)) pa_nil (stp rfl)) (stp rfl)) (hn := n_isinstance) (hdb := d_isinstance) (he := stp rfl) (hpl := anp rfl)) (pe_one (pe_not (pe_callB call_isinst (gl_of g_is_whole_isinstance) T.b_isinstance PyProof.Rows.Boot.«isinstance» (pa_cons (pe_var (i := 0) (x := "thing") rfl (vis_of v_is_whole_thing) d_thing e_thing) (pa_cons (pe_bltn (v := .ty "bool") (gl_of g_is_whole_bool) T.b_bool PyProof.Rows.Boot.«bool» rfl (hn := n_bool) (hd := d_bool)) pa_nil (stp rfl)) (stp rfl)) (hn := n_isinstance) (hdb := d_isinstance) (he := stp rfl) (hpl := anp rfl))))))), ?_⟩
    obtain ⟨n, ty⟩ := ty
    have e1 := kit_int ty
    have e2 := kit_bool ty
    walk_at "RD"
    refine ⟨_, ty, _, e1, ?_⟩
    cases hb : isIB x with
    | true =>
      rw [if_pos rfl]
      refine ⟨_, ty, _, e2, ?_⟩
      cases x <;> simp_all [isI, isB, isIB]
    | false =>
      rw [if_neg (by decide)]
      cases x <;> simp_all [isI, isB, isIB]
theorem sc_is_among : FnScope ["thing", "least", "most"] ["thing", "least", "most"] (defScope s_is_among) := ⟨rfl, rfl, rfl, by decide +kernel, rfl, by decide +kernel, by decide +kernel⟩
set_option maxHeartbeats 4000000 in
theorem ok_is_among {fd : FuncData} (F : Fun K "is_among" "is_among" s_is_among ad.is_among fd) (T : Txt K mg ad) {fd_is_whole : FuncData} (G_is_whole : FnOk P w K mg base CX0 1 ad.is_whole fd_is_whole ["thing"] (spWhole K)) (B_is_whole : Binds K fd_is_whole ["thing"] []) : FnOk P w K mg base CX0 2 ad.is_among fd ["thing", "least", "most"] (spAmong K) := by
  refine F.ok sc_is_among (fun vs H Q E h => ?_) (fun cdv A outer s H vs Q E HR h => ?_)
  · obtain ⟨x, lo, hi, rfl, _⟩ := h
    rfl
  · obtain ⟨x, lo, hi, rfl, ty, hq⟩ := h
    have ND := sc_is_among.nd
    have HU0 := HR.units0
    have HU := HR.units
    have hA := HR.hd
    have hz : (100000 : Nat) ≤ sizeLine := by rw [sizeLine_eq]; decide
    refine ⟨_, (pss_one (ps_ret (pe_and (pe_call G_is_whole (HR.mono (by decide)) (gl_of g_is_among_is_whole) T.mg_is_whole T.k_is_whole B_is_whole .nil pass0 (pa_cons (pe_var (i := 0) (x := "thing") rfl (vis_of v_is_among_thing) d_thing e_thing) pa_nil (stp rfl)) (hdb := d_is_whole) (he := stp rfl) (hpl := anp rfl)) (pe_one (pe_chain op_le op_le (pe_var (i := 1) (x := "least") rfl (vis_of v_is_among_least) d_least e_least) (pe_var (i := 0) (x := "thing") rfl (vis_of v_is_among_thing) d_thing e_thing) (pe_var (i := 2) (x := "most") rfl (vis_of v_is_among_most) d_most e_most)))))), ?_⟩
    walk_at "RD"
    refine ⟨x, rfl, ty, ?_⟩
    walk_at "RD"
    cases x <;> simp_all [isI, amg]
    split <;> simp_all
theorem sc_check_row : FnScope ["line", "wide"] ["line", "wide"] (defScope s_check_row) := ⟨rfl, rfl, rfl, by decide +kernel, rfl, by decide +kernel, by decide +kernel⟩
set_option maxHeartbeats 4000000 in
theorem ok_check_row {fd : FuncData} (F : Fun K "check_row" "check_row" s_check_row ad.check_row fd) (T : Txt K mg ad) : FnOk P w K mg base CX0 1 ad.check_row fd ["line", "wide"] (spRow) := by
  refine F.ok sc_check_row (fun vs H Q E h => ?_) (fun cdv A outer s H vs Q E HR h => ?_)
  · obtain ⟨x, n, rfl, _⟩ := h
    rfl
  · obtain ⟨x, n, rfl, hn, n10, ok, hq⟩ := h
    have ND := sc_check_row.nd
    have HU0 := HR.units0
    have HU := HR.units
    have hA := HR.hd
    have hz : (100000 : Nat) ≤ sizeLine := by rw [sizeLine_eq]; decide
    obtain ⟨u_SIGNS, c_SIGNS, r_SIGNS⟩ := T.c_SIGNS
    refine ⟨_, (pss_cons (ps_if (PW.pt (pw_or (pt_not (pt_val (pe_callB call_isinst (gl_of g_check_row_isinstance) T.b_isinstance PyProof.Rows.Boot.«isinstance» (pa_cons (pe_var (i := 0) (x := "line") rfl (vis_of v_check_row_line) d_line e_line) (pa_cons (pe_bltn (v := .ty "str") (gl_of g_check_row_str) T.b_str PyProof.Rows.Boot.«str» rfl (hn := n_str) (hd := d_str)) pa_nil (stp rfl)) (stp rfl)) (hn := n_isinstance) (hdb := d_isinstance) (he := stp rfl) (hpl := anp rfl)))) (pw_or1 (pt_cmpR op_ne (pe_callB call_len_str (gl_of g_check_row_len) T.b_len PyProof.Rows.Boot.«len» (pa_cons (pe_var (i := 0) (x := "line") rfl (vis_of v_check_row_line) d_line e_line) pa_nil (stp rfl)) (hn := n_len) (hdb := d_len) (he := stp rfl) (hpl := anp rfl)) (pe_var (i := 1) (x := "wide") rfl (vis_of v_check_row_wide) d_wide e_wide) (nomark _)))))
 pss_never
 pss_nil)
 (pss_one (ps_if (pt_not (pt_val (pe_callB call_all_list (gl_of g_check_row_all) T.b_all PyProof.Rows.Boot.«all» (pa_cons (pe_comp (CompScope.of (osc := defScope s_check_row) (tn := ["sign"]) (cn := []) (caps := []) rfl rfl (by decide +kernel) (by decide +kernel) (by decide +kernel) (by decide +kernel) rfl) rfl  (pi_str (pe_var (i := 0) (x := "line") rfl (vis_of v_check_row_line) d_line e_line))
 (fun _ _ _ _ _ => (pg_name (i := 0) (show (["sign"] : List Str).Nodup by decide +kernel) rfl (Or.inl rfl))) (fun _ _ _ _ _ => pts_nil) (fun _ _ _ _ _ => (pe_cmpR op_in_chr (pv 0) (pe_glob (v := V.str (Str.ofString ".#+~|")) (by rfl) c_SIGNS r_SIGNS (hd := d_SIGNS)) (by with_unfolding_all rfl)))) pa_nil (stp rfl)) (hn := n_all) (hdb := d_all) (he := stp rfl) (hpl := anp rfl))))
 pss_never
 pss_nil))), ?_⟩
    walk_at "RD"
    refine ⟨_, .str _, true, rfl, ?_⟩
    rw [if_neg (by decide)]
    refine ⟨by omega, ?_⟩
    rw [if_neg (by omega)]
    refine comp_pure src_str (fun _ => true) inSg (fun y hy Q h => h) (fun y hy _ Q h => ?_) (by rw [List.length_map, str_len_list]; omega) ?_
    · obtain ⟨c, hc, rfl⟩ := List.mem_map.mp hy
      walk_at "RD"
      exact ⟨c, rfl, h⟩
    · intro D hD
      have ey : ((x.cps.toList.map chr1).filter fun _ => true).map inSg = (x.cps.toList.map fun c => decide (c ∈ (Str.ofString ".#+~|").cps.toList)).map V.bl := by
        rw [List.filter_eq_self.mpr (fun _ _ => rfl), List.map_map, List.map_map]
        rfl
      rw [ey]
      refine ⟨hA, _, SqL.of upd_same, ?_⟩
      have e2 : (x.cps.toList.map fun c => decide (c ∈ (Str.ofString ".#+~|").cps.toList)).all id = true := by
        rw [List.all_map, List.all_eq_true]
        intro c hc
        exact decide_eq_true (mem_sgn (ok c hc))
      rw [e2, if_neg (by decide)]
      exact hq _ (same_new hD)
theorem sc_check_floor : FnScope ["lines", "line"] ["lines"] (defScope s_check_floor) := ⟨rfl, rfl, rfl, by decide +kernel, rfl, by decide +kernel, by decide +kernel⟩
set_option maxHeartbeats 4000000 in
theorem ok_check_floor {fd : FuncData} (F : Fun K "check_floor" "check_floor" s_check_floor ad.check_floor fd) (T : Txt K mg ad) {fd_is_among : FuncData} (G_is_among : FnOk P w K mg base CX0 2 ad.is_among fd_is_among ["thing", "least", "most"] (spAmong K)) (B_is_among : Binds K fd_is_among ["thing", "least", "most"] []) {fd_check_row : FuncData} (G_check_row : FnOk P w K mg base CX0 1 ad.check_row fd_check_row ["line", "wide"] (spRow)) (B_check_row : Binds K fd_check_row ["line", "wide"] []) : FnOk P w K mg base CX0 3 ad.check_floor fd ["lines"] (spCheck) := by
  refine F.ok sc_check_floor (fun vs H Q E h => ?_) (fun cdv A outer s H vs Q E HR h => ?_)
  · obtain ⟨l, w, h, sg, rfl, _⟩ := h
    rfl
  · obtain ⟨l, w, h, sg, rfl, hL, g, hq⟩ := h
    have ND := sc_check_floor.nd
    have HU0 := HR.units0
    have HU := HR.units
    have hA := HR.hd
    have hz : (100000 : Nat) ≤ sizeLine := by rw [sizeLine_eq]; decide
    obtain ⟨u_WALL, c_WALL, r_WALL⟩ := T.c_WALL
    obtain ⟨u_MOST_ROWS, c_MOST_ROWS, r_MOST_ROWS⟩ := T.c_MOST_ROWS
    obtain ⟨u_MOST_SIGNS, c_MOST_SIGNS, r_MOST_SIGNS⟩ := T.c_MOST_SIGNS
    refine ⟨_, (pss_cons (ps_if (PW.pt (pw_or (pt_not (pt_val (pe_callB call_isinst (gl_of g_check_floor_isinstance) T.b_isinstance PyProof.Rows.Boot.«isinstance» (pa_cons (pe_var (i := 0) (x := "lines") rfl (vis_of v_check_floor_lines) d_lines e_lines) (pa_cons (pe_bltn (v := .ty "list") (gl_of g_check_floor_list) T.b_list PyProof.Rows.Boot.«list» rfl (hn := n_list) (hd := d_list)) pa_nil (stp rfl)) (stp rfl)) (hn := n_isinstance) (hdb := d_isinstance) (he := stp rfl) (hpl := anp rfl)))) (pw_or1 (pt_not (pt_val (pe_call G_is_among (HR.mono (by decide)) (gl_of g_check_floor_is_among) T.mg_is_among T.k_is_among B_is_among .nil pass0 (pa_cons (pe_callB call_len_seq (gl_of g_check_floor_len) T.b_len PyProof.Rows.Boot.«len» (pa_cons (pe_var (i := 0) (x := "lines") rfl (vis_of v_check_floor_lines) d_lines e_lines) pa_nil (stp rfl)) (hn := n_len) (hdb := d_len) (he := stp rfl) (hpl := anp rfl)) (pa_cons pe_int (pa_cons (pe_glob (v := V.int 10) (gl_of g_check_floor_MOST_ROWS) c_MOST_ROWS r_MOST_ROWS (hd := d_MOST_ROWS)) pa_nil (stp rfl)) (stp rfl)) (stp rfl)) (hdb := d_is_among) (he := stp rfl) (hpl := anp rfl)))))))
 pss_never
 pss_nil)
 (pss_cons (ps_if (PW.pt (pw_or (pt_not (pt_val (pe_callB call_isinst (gl_of g_check_floor_isinstance) T.b_isinstance PyProof.Rows.Boot.«isinstance» (pa_cons (pe_ix ix_list (pe_var (i := 0) (x := "lines") rfl (vis_of v_check_floor_lines) d_lines e_lines) pe_int (fun _ _ => rfl)) (pa_cons (pe_bltn (v := .ty "str") (gl_of g_check_floor_str) T.b_str PyProof.Rows.Boot.«str» rfl (hn := n_str) (hd := d_str)) pa_nil (stp rfl)) (stp rfl)) (hn := n_isinstance) (hdb := d_isinstance) (he := stp rfl) (hpl := anp rfl)))) (pw_or1 (pt_not (pt_val (pe_call G_is_among (HR.mono (by decide)) (gl_of g_check_floor_is_among) T.mg_is_among T.k_is_among B_is_among .nil pass0 (pa_cons (pe_callB call_len_str (gl_of g_check_floor_len) T.b_len PyProof.Rows.Boot.«len» (pa_cons (pe_ix ix_list (pe_var (i := 0) (x := "lines") rfl (vis_of v_check_floor_lines) d_lines e_lines) pe_int (fun _ _ => rfl)) pa_nil (stp rfl)) (hn := n_len) (hdb := d_len) (he := stp rfl) (hpl := anp rfl)) (pa_cons pe_int (pa_cons (pe_glob (v := V.int 10) (gl_of g_check_floor_MOST_SIGNS) c_MOST_SIGNS r_MOST_SIGNS (hd := d_MOST_SIGNS)) pa_nil (stp rfl)) (stp rfl)) (stp rfl)) (hdb := d_is_among) (he := stp rfl) (hpl := anp rfl)))))))
 pss_never
 pss_nil)
 (pss_cons (ps_for PassesOwn.never rfl (pi_list (pe_var (i := 0) (x := "lines") rfl (vis_of v_check_floor_lines) d_lines e_lines)) (pg_name (i := 1) ND rfl (loc_of (Or.inl l_check_floor_line)))
 (pss_one (ps_expr (pe_call G_check_row (HR.mono (by decide)) (gl_of g_check_floor_check_row) T.mg_check_row T.k_check_row B_check_row .nil pass0 (pa_cons (pe_var (i := 1) (x := "line") rfl (vis_of v_check_floor_line) d_line e_line) (pa_cons (pe_callB call_len_str (gl_of g_check_floor_len) T.b_len PyProof.Rows.Boot.«len» (pa_cons (pe_ix ix_list (pe_var (i := 0) (x := "lines") rfl (vis_of v_check_floor_lines) d_lines e_lines) pe_int (fun _ _ => rfl)) pa_nil (stp rfl)) (hn := n_len) (hdb := d_len) (he := stp rfl) (hpl := anp rfl)) pa_nil (stp rfl)) (stp rfl)) (hdb := d_check_row) (he := stp rfl) (hpl := anp rfl)))))
 (pss_one (ps_if (pt_val (pe_callB call_all_list (gl_of g_check_floor_all) T.b_all PyProof.Rows.Boot.«all» (pa_cons (pe_comp (CompScope.of (osc := defScope s_check_floor) (tn := ["sign"]) (cn := []) (caps := []) rfl rfl (by decide +kernel) (by decide +kernel) (by decide +kernel) (by decide +kernel) rfl) rfl  (pi_str (pe_bm PySem.F.plainAttrs_str PySem.F.slot_str_join PySem.F.type_str_join mt_join pe_str (pa_cons (pe_var (i := 0) (x := "lines") rfl (vis_of v_check_floor_lines) d_lines e_lines) pa_nil (stp rfl))))
 (fun _ _ _ _ _ => (pg_name (i := 0) (show (["sign"] : List Str).Nodup by decide +kernel) rfl (Or.inl rfl))) (fun _ _ _ _ _ => pts_nil) (fun _ _ _ _ _ => (pe_cmpR op_eq (pv 0) (pe_glob (v := V.str (Str.ofString "#")) (by rfl) c_WALL r_WALL (hd := d_WALL)) (nomark _)))) pa_nil (stp rfl)) (hn := n_all) (hdb := d_all) (he := stp rfl) (hpl := anp rfl)))
 pss_never
 pss_nil))))), ?_⟩
    have w0 := g.w0
    have w1 := g.w1
    have h0 := g.h0
    have h1 := g.h1
    have l100 := len100 g
    have e0 : atI ((linesOf w h sg).map V.str) 0 = some (V.str (lineOf w sg 0)) := atI_nat (j := 0) (by rw [List.getElem?_map, lines_get (by omega)]; rfl)
    have eL := line_len g (show 0 < h by omega)
    refine tSeq_cut (fun σ H' => H' = H ∧ σ = [some (V.ref l), none]) (fun nx hk => ?_) ?_
    · walk_at "RD"
      refine ⟨_, .lst hL, true, rfl, ?_⟩
      rw [if_neg (by decide)]
      refine ⟨_, .inl (SqL.of hL), _, _, _, rfl, ⟨_, .int _⟩, _, rfl, ?_⟩
      rw [List.length_map, lines_len]
      have ea : amg (.int (h : Int)) 1 10 = true := by simp only [amg, Bool.and_eq_true, decide_eq_true_eq]; omega
      rw [ea, if_neg (by decide)]
      exact hk _ _ ⟨rfl, rfl⟩
    rintro σ H1 ⟨rfl, rfl⟩
    refine tSeq_cut (fun σ H' => H' = H1 ∧ σ = [some (V.ref l), none]) (fun nx hk => ?_) ?_
    · walk_at "RD"
      refine ⟨_, SqL.of hL, _, e0, _, .str _, true, rfl, ?_⟩
      rw [if_neg (by decide)]
      refine ⟨_, SqL.of hL, _, e0, _, rfl, by rw [eL]; omega, _, _, _, rfl, ⟨_, .int _⟩, _, rfl, ?_⟩
      rw [eL]
      have ea : amg (.int (w : Int)) 1 10 = true := by simp only [amg, Bool.and_eq_true, decide_eq_true_eq]; omega
      rw [ea, if_neg (by decide)]
      exact hk _ _ ⟨rfl, rfl⟩
    rintro σ H2 ⟨rfl, rfl⟩
    refine tSeq_cut (fun σ H' => ∃ y, Same H2 H' ∧ σ = [some (V.ref l), y]) (fun nx hk => ?_) ?_
    · walk_at "RD"
      refine ⟨⟨_, SqL.of hL⟩, for_list (K := K) (a := l) (xs := (linesOf w h sg).map V.str) (fun i σ H' => ∃ y, Same H2 H' ∧ σ = [some (V.ref l), y]) ⟨none, Same.refl _, rfl⟩ (fun i σ H' _ ⟨_, sm, _⟩ => SqL.of (sm _ _ hL)) ?_ ?_⟩
      · rintro i y σ H' hi ⟨y0, sm, rfl⟩
        rw [List.getElem?_map] at hi
        obtain ⟨z, hz', rfl⟩ := Option.map_eq_some_iff.mp hi
        have hih : i < h := by
          have := (List.getElem?_eq_some_iff.mp hz').1
          rwa [lines_len] at this
        rw [lines_get hih] at hz'
        cases hz'
        walk_at "RD"
        refine ⟨_, SqL.of (sm _ _ hL), _, e0, _, rfl, by rw [eL]; omega, ?_⟩
        rw [eL]
        exact ⟨_, w, rfl, line_len g hih, w1, line_ok g, fun H3 s3 => ⟨sm.trans s3, _, rfl⟩⟩
      · rintro σ H' ⟨y, sm, rfl⟩
        exact hk _ _ ⟨y, sm, rfl⟩
    rintro σ H3 ⟨y, s3, rfl⟩
    walk_at "RD"
    refine ⟨rfl, _, SqL.of (s3 _ _ hL), sum_lines g, ?_⟩
    rw [join_lines g]
    refine comp_pure src_str (fun _ => true) isWall (fun y hy Q h => h) (fun y hy _ Q hh => ?_) (by rw [List.length_map, str_len_list, txt_len]; omega) ?_
    · obtain ⟨c, hc, rfl⟩ := List.mem_map.mp hy
      walk_at "RD"
      refine ⟨rfl, ?_⟩
      have e : isWall (chr1 c) = V.bl (decide (chr1 c = V.str (Str.ofString "#"))) := by
        show V.bl _ = V.bl _
        congr 1
        exact decide_eq_decide.mpr ⟨fun z => congrArg V.str z, fun z => V.str.inj z⟩
      rw [e] at hh
      exact hh
    · intro D hD
      have ey : (((txt sg).cps.toList.map chr1).filter fun _ => true).map isWall = (sg.map fun c => decide ((⟨#[c]⟩ : Str) = Str.ofString "#")).map V.bl := by
        rw [List.filter_eq_self.mpr (fun _ _ => rfl), List.map_map, List.map_map, txt_list]
        rfl
      rw [ey]
      refine ⟨hA, _, SqL.of upd_same, ?_⟩
      have e2 : (sg.map fun c => decide ((⟨#[c]⟩ : Str) = Str.ofString "#")).all id = false := by
        obtain ⟨c, hc, hne⟩ := g.cell
        rw [List.all_map, List.all_eq_false]
        exact ⟨c, hc, by
          show ¬ (decide _ = true)
          rw [decide_eq_true_eq, wall_eq]
          exact hne⟩
      rw [e2, if_neg (by decide)]
      exact hq _ (s3.trans (same_new hD))
theorem sc_Floor_init : FnScope ["self", "lines"] ["self", "lines"] (defScope s_Floor_init) := ⟨rfl, rfl, rfl, by decide +kernel, rfl, by decide +kernel, by decide +kernel⟩
set_option maxHeartbeats 4000000 in
theorem ok_Floor_init {fd : FuncData} (F : Fun K "__init__" "Floor.__init__" s_Floor_init ad.Floor_init fd) (T : Txt K mg ad) {fd_check_floor : FuncData} (G_check_floor : FnOk P w K mg base CX0 3 ad.check_floor fd_check_floor ["lines"] (spCheck)) (B_check_floor : Binds K fd_check_floor ["lines"] []) : FnOk P w K mg base CX0 4 ad.Floor_init fd ["self", "lines"] (spInit ad.C_Floor) := by
  refine F.ok sc_Floor_init (fun vs H Q E h => ?_) (fun cdv A outer s H vs Q E HR h => ?_)
  · obtain ⟨p, dx, l, w, h, sg, rfl, _⟩ := h
    rfl
  · obtain ⟨p, dx, l, w, h, sg, rfl, hp, hL, g, hq⟩ := h
    have ND := sc_Floor_init.nd
    have HU0 := HR.units0
    have HU := HR.units
    have hA := HR.hd
    have hz : (100000 : Nat) ≤ sizeLine := by rw [sizeLine_eq]; decide
    refine ⟨_, (pss_cons (ps_expr (pe_call G_check_floor (HR.mono (by decide)) (gl_of g_Floor_init_check_floor) T.mg_check_floor T.k_check_floor B_check_floor .nil pass0 (pa_cons (pe_var (i := 1) (x := "lines") rfl (vis_of v_Floor_init_lines) d_lines e_lines) pa_nil (stp rfl)) (hdb := d_check_floor) (he := stp rfl) (hpl := anp rfl)))
 (pss_cons (ps_fld (pe_var (i := 0) (x := "self") rfl (vis_of v_Floor_init_self) d_self e_self) (pe_callB call_len_str (gl_of g_Floor_init_len) T.b_len PyProof.Rows.Boot.«len» (pa_cons (pe_ix ix_list (pe_var (i := 1) (x := "lines") rfl (vis_of v_Floor_init_lines) d_lines e_lines) pe_int (fun _ _ => rfl)) pa_nil (stp rfl)) (hn := n_len) (hdb := d_len) (he := stp rfl) (hpl := anp rfl)) rfl)
 (pss_cons (ps_fld (pe_var (i := 0) (x := "self") rfl (vis_of v_Floor_init_self) d_self e_self) (pe_callB call_len_seq (gl_of g_Floor_init_len) T.b_len PyProof.Rows.Boot.«len» (pa_cons (pe_var (i := 1) (x := "lines") rfl (vis_of v_Floor_init_lines) d_lines e_lines) pa_nil (stp rfl)) (hn := n_len) (hdb := d_len) (he := stp rfl) (hpl := anp rfl)) rfl)
 (pss_cons (ps_fld (pe_var (i := 0) (x := "self") rfl (vis_of v_Floor_init_self) d_self e_self) (pe_callTy call_list_of (gl_of g_Floor_init_list) T.b_list PyProof.Rows.Boot.«list» (pa_cons (pe_var (i := 1) (x := "lines") rfl (vis_of v_Floor_init_lines) d_lines e_lines) pa_nil (stp rfl)) (hn := n_list) (hdb := d_list) (he := stp rfl) (hpl := anp rfl)) rfl)
 (pss_one (ps_fld (pe_var (i := 0) (x := "self") rfl (vis_of v_Floor_init_self) d_self e_self) (pe_bm PySem.F.plainAttrs_str PySem.F.slot_str_join PySem.F.type_str_join mt_join pe_str (pa_cons (pe_var (i := 1) (x := "lines") rfl (vis_of v_Floor_init_lines) d_lines e_lines) pa_nil (stp rfl))) rfl)))))), ?_⟩
    have w0 := g.w0
    have h0 := g.h0
    have l100 := len100 g
    have e0 : atI ((linesOf w h sg).map V.str) 0 = some (V.str (lineOf w sg 0)) := atI_nat (j := 0) (by rw [List.getElem?_map, lines_get (by omega)]; rfl)
    have eL := line_len g (show 0 < h by omega)
    have w1 := g.w1
    have npl : l ≠ p := ne_of hL hp (by intro z; cases z)
    walk_at "RD"
    refine ⟨l, w, h, sg, rfl, hL, g, fun H1 s1 => ?_⟩
    have hL1 := s1 _ _ hL
    have hp1 := s1 _ _ hp
    dsimp only
    refine ⟨_, SqL.of hL1, _, e0, _, rfl, by rw [eL]; omega, _, _, _, hp1, T.cl_Floor, T.n_Floor_wide, by show 0 < 1000; decide, ?_⟩
    rw [eL]
    refine ⟨_, .inl (SqL.of (by rw [upd_ne npl]; exact hL1)), _, _, _, upd_same, T.cl_Floor, T.n_Floor_high, by show 1 < 1000; decide, ?_⟩
    rw [List.length_map, lines_len]
    refine ⟨_, .inl (SqL.of (by rw [upd_ne npl, upd_ne npl]; exact hL1)), fun l2 n2 => ?_⟩
    have np2 : l2 ≠ p := fun z => by rw [z, upd_same] at n2; cases n2
    have n20 : H1 l2 = none := by rw [upd_ne np2, upd_ne np2] at n2; exact n2
    have nl2 : l ≠ l2 := ne_of_none hL1 n20
    refine ⟨_, _, _, by rw [upd_ne np2.symm, upd_same], T.cl_Floor, T.n_Floor_lines, by show 2 < 1000; decide, rfl, _, SqL.of (by rw [upd_ne npl, upd_ne nl2, upd_ne npl, upd_ne npl]; exact hL1), sum_lines g, _, _, _, upd_same, T.cl_Floor, T.n_Floor_signs, by show 3 < 1000; decide, ?_⟩
    rw [join_lines g]
    refine hq _ dx l2 (s1.free n20) upd_same ?_ fun b o hb nb => ?_
    · unfold LinesAt
      rw [upd_ne np2, upd_ne np2, upd_same]
    · have hb1 := s1 _ _ hb
      rw [upd_ne nb, upd_ne nb, upd_ne (ne_of_none hb1 n20), upd_ne nb, upd_ne nb]
      exact hb1
theorem sc_Floor_has : FnScope ["self", "cell"] ["self", "cell"] (defScope s_Floor_has) := ⟨rfl, rfl, rfl, by decide +kernel, rfl, by decide +kernel, by decide +kernel⟩
set_option maxHeartbeats 4000000 in
theorem ok_Floor_has {fd : FuncData} (F : Fun K "has" "Floor.has" s_Floor_has ad.Floor_has fd) (T : Txt K mg ad) {fd_is_among : FuncData} (G_is_among : FnOk P w K mg base CX0 2 ad.is_among fd_is_among ["thing", "least", "most"] (spAmong K)) (B_is_among : Binds K fd_is_among ["thing", "least", "most"] []) : FnOk P w K mg base CX0 3 ad.Floor_has fd ["self", "cell"] (spHas K ad.C_Floor) := by
  refine F.ok sc_Floor_has (fun vs H Q E h => ?_) (fun cdv A outer s H vs Q E HR h => ?_)
  · obtain ⟨p, w, h, sg, x, rfl, _⟩ := h
    rfl
  · obtain ⟨p, w, h, sg, x, rfl, F0, g, ty, hq⟩ := h
    have ND := sc_Floor_has.nd
    have HU0 := HR.units0
    have HU := HR.units
    have hA := HR.hd
    have hz : (100000 : Nat) ≤ sizeLine := by rw [sizeLine_eq]; decide
    obtain ⟨u_WALL, c_WALL, r_WALL⟩ := T.c_WALL
    refine ⟨_, (pss_one (ps_ret (pe_and (pe_call G_is_among (HR.mono (by decide)) (gl_of g_Floor_has_is_among) T.mg_is_among T.k_is_among B_is_among .nil pass0 (pa_cons (pe_var (i := 1) (x := "cell") rfl (vis_of v_Floor_has_cell) d_cell e_cell) (pa_cons pe_int (pa_cons (pe_op op_sub (pe_callB call_len_str (gl_of g_Floor_has_len) T.b_len PyProof.Rows.Boot.«len» (pa_cons (pe_fld (pe_var (i := 0) (x := "self") rfl (vis_of v_Floor_has_self) d_self e_self) (by rfl)) pa_nil (stp rfl)) (hn := n_len) (hdb := d_len) (he := stp rfl) (hpl := anp rfl)) pe_int) pa_nil (stp rfl)) (stp rfl)) (stp rfl)) (hdb := d_is_among) (he := stp rfl) (hpl := anp rfl)) (pe_one (pe_cmpR op_ne (pe_ix ix_str (pe_fld (pe_var (i := 0) (x := "self") rfl (vis_of v_Floor_has_self) d_self e_self) (by rfl)) (pe_var (i := 1) (x := "cell") rfl (vis_of v_Floor_has_cell) d_cell e_cell) (fun _ _ => rfl)) (pe_glob (v := V.str (Str.ofString "#")) (gl_of g_Floor_has_WALL) c_WALL r_WALL (hd := d_WALL)) (nomark _)))))), ?_⟩
    obtain ⟨dx, l, h1, h2⟩ := F0.ob
    have l100 := len100 g
    walk_at "RD"
    refine ⟨_, _, _, h1, T.cl_Floor, T.n_Floor_signs, _, f_signs _ _ _ _, _, rfl, by rw [txt_len]; omega, x, _, _, rfl, ty, _, rfl, ?_⟩
    rw [txt_len]
    cases x with
    | int i =>
      by_cases hi : 0 ≤ i ∧ i < sg.length
      · have ea : amg (.int i) 0 ((sg.length : Int) - 1) = true := by
          simp only [amg, Bool.and_eq_true, decide_eq_true_eq]; omega
        rw [ea, if_pos rfl]
        refine ⟨_, _, _, h1, T.cl_Floor, T.n_Floor_signs, _, f_signs _ _ _ _, _, rfl, _, rfl, by rw [txt_len]; omega, _, at_txt hi.1 hi.2, ?_⟩
        have e : hasV sg (.int i) = !decide ((⟨#[at_ sg i]⟩ : Str) = Str.ofString "#") := by
          show hasI sg i = _
          unfold hasI
          rw [decide_eq_true hi.1, decide_eq_true hi.2]
          simp only [Bool.true_and]
          congr 1
          exact decide_eq_decide.mpr (wall_eq _).symm
        rw [e] at hq
        exact hq
      · have ea : amg (.int i) 0 ((sg.length : Int) - 1) = false := by
          rw [← Bool.not_eq_true]
          simp only [amg, Bool.and_eq_true, decide_eq_true_eq]; omega
        rw [ea, if_neg (by decide)]
        have e : hasV sg (.int i) = false := by
          rw [← Bool.not_eq_true]
          show ¬ (hasI sg i = true)
          unfold hasI
          simp only [Bool.and_eq_true, decide_eq_true_eq]
          intro z
          exact hi ⟨z.1.1, z.1.2⟩
        rw [e] at hq
        exact hq
    | _ =>
      rw [show amg _ 0 ((sg.length : Int) - 1) = false from rfl, if_neg (by decide)]
      exact hq
theorem sc_Floor_sign : FnScope ["self", "cell"] ["self", "cell"] (defScope s_Floor_sign) := ⟨rfl, rfl, rfl, by decide +kernel, rfl, by decide +kernel, by decide +kernel⟩
set_option maxHeartbeats 4000000 in
theorem ok_Floor_sign {fd : FuncData} (F : Fun K "sign" "Floor.sign" s_Floor_sign ad.Floor_sign fd) (T : Txt K mg ad) : FnOk P w K mg base CX0 1 ad.Floor_sign fd ["self", "cell"] (spSign ad.C_Floor) := by
  refine F.ok sc_Floor_sign (fun vs H Q E h => ?_) (fun cdv A outer s H vs Q E HR h => ?_)
  · obtain ⟨p, w, h, sg, c, rfl, _⟩ := h
    rfl
  · obtain ⟨p, w, h, sg, c, rfl, F0, g, c0, c1, hq⟩ := h
    have ND := sc_Floor_sign.nd
    have HU0 := HR.units0
    have HU := HR.units
    have hA := HR.hd
    have hz : (100000 : Nat) ≤ sizeLine := by rw [sizeLine_eq]; decide
    refine ⟨_, (pss_one (ps_ret (pe_ix ix_str (pe_fld (pe_var (i := 0) (x := "self") rfl (vis_of v_Floor_sign_self) d_self e_self) (by rfl)) (pe_var (i := 1) (x := "cell") rfl (vis_of v_Floor_sign_cell) d_cell e_cell) (fun _ _ => rfl)))), ?_⟩
    obtain ⟨dx, l, h1, h2⟩ := F0.ob
    have l100 := len100 g
    walk_at "RD"
    exact ⟨_, _, _, h1, T.cl_Floor, T.n_Floor_signs, _, f_signs _ _ _ _, _, rfl, by rw [txt_len]; omega, _, at_txt c0 c1, hq⟩
theorem sc_Floor_column : FnScope ["self", "cell"] ["self", "cell"] (defScope s_Floor_column) := ⟨rfl, rfl, rfl, by decide +kernel, rfl, by decide +kernel, by decide +kernel⟩
set_option maxHeartbeats 4000000 in
theorem ok_Floor_column {fd : FuncData} (F : Fun K "column" "Floor.column" s_Floor_column ad.Floor_column fd) (T : Txt K mg ad) : FnOk P w K mg base CX0 1 ad.Floor_column fd ["self", "cell"] (spCol ad.C_Floor) := by
  refine F.ok sc_Floor_column (fun vs H Q E h => ?_) (fun cdv A outer s H vs Q E HR h => ?_)
  · obtain ⟨p, w, h, sg, c, rfl, _⟩ := h
    rfl
  · obtain ⟨p, w, h, sg, c, rfl, F0, g, hq⟩ := h
    have ND := sc_Floor_column.nd
    have HU0 := HR.units0
    have HU := HR.units
    have hA := HR.hd
    have hz : (100000 : Nat) ≤ sizeLine := by rw [sizeLine_eq]; decide
    refine ⟨_, (pss_one (ps_ret (pe_op op_mod (pe_var (i := 1) (x := "cell") rfl (vis_of v_Floor_column_cell) d_cell e_cell) (pe_fld (pe_var (i := 0) (x := "self") rfl (vis_of v_Floor_column_self) d_self e_self) (by rfl))))), ?_⟩
    obtain ⟨dx, l, h1, h2⟩ := F0.ob
    have w0 := g.w0
    walk_at "RD"
    exact ⟨_, _, _, h1, T.cl_Floor, T.n_Floor_wide, _, f_wide _ _ _ _, _, rfl, by omega, hq⟩
theorem sc_Floor_row : FnScope ["self", "cell"] ["self", "cell"] (defScope s_Floor_row) := ⟨rfl, rfl, rfl, by decide +kernel, rfl, by decide +kernel, by decide +kernel⟩
set_option maxHeartbeats 4000000 in
theorem ok_Floor_row {fd : FuncData} (F : Fun K "row" "Floor.row" s_Floor_row ad.Floor_row fd) (T : Txt K mg ad) : FnOk P w K mg base CX0 1 ad.Floor_row fd ["self", "cell"] (spRowOf ad.C_Floor) := by
  refine F.ok sc_Floor_row (fun vs H Q E h => ?_) (fun cdv A outer s H vs Q E HR h => ?_)
  · obtain ⟨p, w, h, sg, c, rfl, _⟩ := h
    rfl
  · obtain ⟨p, w, h, sg, c, rfl, F0, g, hq⟩ := h
    have ND := sc_Floor_row.nd
    have HU0 := HR.units0
    have HU := HR.units
    have hA := HR.hd
    have hz : (100000 : Nat) ≤ sizeLine := by rw [sizeLine_eq]; decide
    refine ⟨_, (pss_one (ps_ret (pe_op op_fdiv (pe_var (i := 1) (x := "cell") rfl (vis_of v_Floor_row_cell) d_cell e_cell) (pe_fld (pe_var (i := 0) (x := "self") rfl (vis_of v_Floor_row_self) d_self e_self) (by rfl))))), ?_⟩
    obtain ⟨dx, l, h1, h2⟩ := F0.ob
    have w0 := g.w0
    have w1 := g.w1
    walk_at "RD"
    exact ⟨_, _, _, h1, T.cl_Floor, T.n_Floor_wide, _, f_wide _ _ _ _, _, rfl, ⟨by omega, by omega⟩, hq⟩
theorem sc_Floor_cells : FnScope ["self"] ["self"] (defScope s_Floor_cells) := ⟨rfl, rfl, rfl, by decide +kernel, rfl, by decide +kernel, by decide +kernel⟩
set_option maxHeartbeats 4000000 in
theorem ok_Floor_cells {fd : FuncData} (F : Fun K "cells" "Floor.cells" s_Floor_cells ad.Floor_cells fd) (T : Txt K mg ad) {fd_Floor_has : FuncData} (G_Floor_has : FnOk P w K mg base CX0 3 ad.Floor_has fd_Floor_has ["self", "cell"] (spHas K ad.C_Floor)) (B_Floor_has : Binds K fd_Floor_has ["self", "cell"] []) : FnOk P w K mg base CX0 4 ad.Floor_cells fd ["self"] (spCells ad.C_Floor) := by
  refine F.ok sc_Floor_cells (fun vs H Q E h => ?_) (fun cdv A outer s H vs Q E HR h => ?_)
  · obtain ⟨p, w, h, sg, rfl, _⟩ := h
    rfl
  · obtain ⟨p, w, h, sg, rfl, F0, g, hq⟩ := h
    have ND := sc_Floor_cells.nd
    have HU0 := HR.units0
    have HU := HR.units
    have hA := HR.hd
    have hz : (100000 : Nat) ≤ sizeLine := by rw [sizeLine_eq]; decide
    refine ⟨_, (pss_one (ps_ret (pe_comp (CompScope.of (osc := defScope s_Floor_cells) (tn := ["place"]) (cn := ["self"]) (caps := [0]) rfl rfl (by decide +kernel) (by decide +kernel) (by decide +kernel) (by decide +kernel) rfl) rfl  (pi_range1 (gl_of g_Floor_cells_range) T.b_range (pa_cons (pe_callB call_len_str (gl_of g_Floor_cells_len) T.b_len PyProof.Rows.Boot.«len» (pa_cons (pe_fld (pe_var (i := 0) (x := "self") rfl (vis_of v_Floor_cells_self) d_self e_self) (by rfl)) pa_nil (stp rfl)) (hn := n_len) (hdb := d_len) (he := stp rfl) (hpl := anp rfl)) pa_nil (stp rfl)) (st1 rfl))
 (fun _ _ _ _ _ => (pg_name (i := 0) (show (["place", "self"] : List Str).Nodup by decide +kernel) rfl (Or.inl rfl))) (fun _ _ _ _ _ => (pts_one (pt_val (pe_meth (pv 1) T.cl_Floor T.m_Floor_has G_Floor_has (HR.mono (by decide)) B_Floor_has .nil pass0 (pa_cons (pv 0) pa_nil (stp rfl)) (hst := stp rfl) (hpl := anp rfl))))) (fun _ _ _ _ _ => (pv 0))))), ?_⟩
    obtain ⟨dx, l, h1, h2⟩ := F0.ob
    have l100 := len100 g
    walk_at "RD"
    refine ⟨_, _, _, h1, T.cl_Floor, T.n_Floor_signs, _, f_signs _ _ _ _, _, rfl, by rw [txt_len]; omega, by omega, by rw [txt_len]; omega, ?_⟩
    rw [txt_len, Int.toNat_natCast]
    refine comp_pure src_range (hasV sg) (fun v => v) (fun y hy Q hh => ?_) (fun y hy _ Q hh => ?_) (by rw [List.length_map, List.length_range]; omega) ?_
    · obtain ⟨i, hi, rfl⟩ := List.mem_map.mp hy
      walk_at "RD"
      exact ⟨_, _, h1, f_no _ _ _ _ (by decide +kernel) (by decide +kernel) (by decide +kernel) (by decide +kernel), p, w, h, sg, _, rfl, F0, g, ⟨_, .int _⟩, _, rfl, hh⟩
    · walk_at "RD"
      exact hh
    · intro D hD
      have e : ((((List.range sg.length).map fun i => V.int (0 + ((i : Nat) : Int))).filter (hasV sg)).map fun v => v) = (cellsOf sg).map V.int := by
        rw [List.map_id', cells_has, places]
        have : ((List.range sg.length).map fun i => V.int (0 + ((i : Nat) : Int))) = ((List.range sg.length).map fun i => ((i : Nat) : Int)).map V.int := by
          rw [List.map_map]
          refine List.map_congr_left fun i _ => ?_
          simp
        rw [this, List.filter_map]
        rfl
      rw [e]
      exact hq D _ hD (same_new hD) upd_same
theorem sc_Floor_chargers : FnScope ["self"] ["self"] (defScope s_Floor_chargers) := ⟨rfl, rfl, rfl, by decide +kernel, rfl, by decide +kernel, by decide +kernel⟩
set_option maxHeartbeats 4000000 in
theorem ok_Floor_chargers {fd : FuncData} (F : Fun K "chargers" "Floor.chargers" s_Floor_chargers ad.Floor_chargers fd) (T : Txt K mg ad) : FnOk P w K mg base CX0 1 ad.Floor_chargers fd ["self"] (spChargers ad.C_Floor) := by
  refine F.ok sc_Floor_chargers (fun vs H Q E h => ?_) (fun cdv A outer s H vs Q E HR h => ?_)
  · obtain ⟨p, w, h, sg, rfl, _⟩ := h
    rfl
  · obtain ⟨p, w, h, sg, rfl, F0, g, hq⟩ := h
    have ND := sc_Floor_chargers.nd
    have HU0 := HR.units0
    have HU := HR.units
    have hA := HR.hd
    have hz : (100000 : Nat) ≤ sizeLine := by rw [sizeLine_eq]; decide
    obtain ⟨u_CHARGER, c_CHARGER, r_CHARGER⟩ := T.c_CHARGER
    refine ⟨_, (pss_one (ps_ret (pe_comp (CompScope.of (osc := defScope s_Floor_chargers) (tn := ["place"]) (cn := ["self"]) (caps := [0]) rfl rfl (by decide +kernel) (by decide +kernel) (by decide +kernel) (by decide +kernel) rfl) rfl  (pi_range1 (gl_of g_Floor_chargers_range) T.b_range (pa_cons (pe_callB call_len_str (gl_of g_Floor_chargers_len) T.b_len PyProof.Rows.Boot.«len» (pa_cons (pe_fld (pe_var (i := 0) (x := "self") rfl (vis_of v_Floor_chargers_self) d_self e_self) (by rfl)) pa_nil (stp rfl)) (hn := n_len) (hdb := d_len) (he := stp rfl) (hpl := anp rfl)) pa_nil (stp rfl)) (st1 rfl))
 (fun _ _ _ _ _ => (pg_name (i := 0) (show (["place", "self"] : List Str).Nodup by decide +kernel) rfl (Or.inl rfl))) (fun _ _ _ _ _ => (pts_one (pt_cmpR op_eq (pe_ix ix_str (pe_fldK (K := K) rfl (pv 1) (by rfl)) (pv 0) (fun _ _ => rfl)) (pe_glob (v := V.str (Str.ofString "+")) (by rfl) c_CHARGER r_CHARGER (hd := d_CHARGER)) (nomark _)))) (fun _ _ _ _ _ => (pv 0))))), ?_⟩
    obtain ⟨dx, l, h1, h2⟩ := F0.ob
    have l100 := len100 g
    walk_at "RD"
    refine ⟨_, _, _, h1, T.cl_Floor, T.n_Floor_signs, _, f_signs _ _ _ _, _, rfl, by rw [txt_len]; omega, by omega, by rw [txt_len]; omega, ?_⟩
    rw [txt_len, Int.toNat_natCast]
    refine comp_pure src_range (isCh sg) (fun v => v) (fun y hy Q hh => ?_) (fun y hy _ Q hh => ?_) (by rw [List.length_map, List.length_range]; omega) ?_
    · obtain ⟨i, hi, rfl⟩ := List.mem_map.mp hy
      have hi' := List.mem_range.mp hi
      walk_at "RD"
      refine ⟨_, _, _, h1, T.cl_Floor, T.n_Floor_signs, _, f_signs _ _ _ _, _, rfl, by rw [txt_len]; omega, _, at_txt (by omega) (by omega), ?_⟩
      have e : isCh sg (V.int (0 + ((i : Nat) : Int))) = decide ((⟨#[at_ sg (0 + ((i : Nat) : Int))]⟩ : Str) = Str.ofString "+") := decide_eq_decide.mpr (plus_eq _).symm
      rw [e] at hh
      exact hh
    · walk_at "RD"
      exact hh
    · intro D hD
      have e : ((((List.range sg.length).map fun i => V.int (0 + ((i : Nat) : Int))).filter (isCh sg)).map fun v => v) = (chargersOf sg).map V.int := by
        rw [List.map_id', chargersOf, places]
        have : ((List.range sg.length).map fun i => V.int (0 + ((i : Nat) : Int))) = ((List.range sg.length).map fun i => ((i : Nat) : Int)).map V.int := by
          rw [List.map_map]
          refine List.map_congr_left fun i _ => ?_
          simp
        rw [this, List.filter_map]
        rfl
      rw [e]
      exact hq D _ hD (same_new hD) upd_same
theorem sc_Floor_beside : FnScope ["self", "cell", "near"] ["self", "cell"] (defScope s_Floor_beside) := ⟨rfl, rfl, rfl, by decide +kernel, rfl, by decide +kernel, by decide +kernel⟩
set_option maxHeartbeats 4000000 in
theorem ok_Floor_beside {fd : FuncData} (F : Fun K "beside" "Floor.beside" s_Floor_beside ad.Floor_beside fd) (T : Txt K mg ad) {fd_Floor_column : FuncData} (G_Floor_column : FnOk P w K mg base CX0 1 ad.Floor_column fd_Floor_column ["self", "cell"] (spCol ad.C_Floor)) (B_Floor_column : Binds K fd_Floor_column ["self", "cell"] []) {fd_Floor_has : FuncData} (G_Floor_has : FnOk P w K mg base CX0 3 ad.Floor_has fd_Floor_has ["self", "cell"] (spHas K ad.C_Floor)) (B_Floor_has : Binds K fd_Floor_has ["self", "cell"] []) : FnOk P w K mg base CX0 4 ad.Floor_beside fd ["self", "cell"] (spBeside ad.C_Floor) := by
  refine F.ok sc_Floor_beside (fun vs H Q E h => ?_) (fun cdv A outer s H vs Q E HR h => ?_)
  · obtain ⟨p, w, h, sg, c, rfl, _⟩ := h
    rfl
  · obtain ⟨p, w, h, sg, c, rfl, F0, g, hq⟩ := h
    have ND := sc_Floor_beside.nd
    have HU0 := HR.units0
    have HU := HR.units
    have hA := HR.hd
    have hz : (100000 : Nat) ≤ sizeLine := by rw [sizeLine_eq]; decide
    refine ⟨_, (pss_cons (ps_set (i := 2) ND rfl (loc_of (Or.inl l_Floor_beside_near)) (pe_lst (pa_cons (pe_op op_sub (pe_var (i := 1) (x := "cell") rfl (vis_of v_Floor_beside_cell) d_cell e_cell) (pe_fld (pe_var (i := 0) (x := "self") rfl (vis_of v_Floor_beside_self) d_self e_self) (by rfl))) pa_nil (stp rfl))))
 (pss_cons (ps_if (pt_cmpR op_gt (pe_meth (pe_var (i := 0) (x := "self") rfl (vis_of v_Floor_beside_self) d_self e_self) T.cl_Floor T.m_Floor_column G_Floor_column (HR.mono (by decide)) B_Floor_column .nil pass0 (pa_cons (pe_var (i := 1) (x := "cell") rfl (vis_of v_Floor_beside_cell) d_cell e_cell) pa_nil (stp rfl)) (hst := stp rfl) (hpl := anp rfl)) pe_int (nomark _))
 (pss_one (ps_expr (pe_bm PySem.F.plainAttrs_list PySem.F.slot_list_append PySem.F.type_list_append mt_append (pe_var (i := 2) (x := "near") rfl (vis_of v_Floor_beside_near) d_near e_near) (pa_cons (pe_op op_sub (pe_var (i := 1) (x := "cell") rfl (vis_of v_Floor_beside_cell) d_cell e_cell) pe_int) pa_nil (stp rfl)))))
 pss_nil)
 (pss_cons (ps_if (pt_cmpR op_lt (pe_meth (pe_var (i := 0) (x := "self") rfl (vis_of v_Floor_beside_self) d_self e_self) T.cl_Floor T.m_Floor_column G_Floor_column (HR.mono (by decide)) B_Floor_column .nil pass0 (pa_cons (pe_var (i := 1) (x := "cell") rfl (vis_of v_Floor_beside_cell) d_cell e_cell) pa_nil (stp rfl)) (hst := stp rfl) (hpl := anp rfl)) (pe_op op_sub (pe_fld (pe_var (i := 0) (x := "self") rfl (vis_of v_Floor_beside_self) d_self e_self) (by rfl)) pe_int) (nomark _))
 (pss_one (ps_expr (pe_bm PySem.F.plainAttrs_list PySem.F.slot_list_append PySem.F.type_list_append mt_append (pe_var (i := 2) (x := "near") rfl (vis_of v_Floor_beside_near) d_near e_near) (pa_cons (pe_op op_add (pe_var (i := 1) (x := "cell") rfl (vis_of v_Floor_beside_cell) d_cell e_cell) pe_int) pa_nil (stp rfl)))))
 pss_nil)
 (pss_cons (ps_expr (pe_bm PySem.F.plainAttrs_list PySem.F.slot_list_append PySem.F.type_list_append mt_append (pe_var (i := 2) (x := "near") rfl (vis_of v_Floor_beside_near) d_near e_near) (pa_cons (pe_op op_add (pe_var (i := 1) (x := "cell") rfl (vis_of v_Floor_beside_cell) d_cell e_cell) (pe_fld (pe_var (i := 0) (x := "self") rfl (vis_of v_Floor_beside_self) d_self e_self) (by rfl))) pa_nil (stp rfl))))
 (pss_one (ps_ret (pe_comp (CompScope.of (osc := defScope s_Floor_beside) (tn := ["place"]) (cn := ["self"]) (caps := [0]) rfl rfl (by decide +kernel) (by decide +kernel) (by decide +kernel) (by decide +kernel) rfl) rfl  (pi_list (pe_var (i := 2) (x := "near") rfl (vis_of v_Floor_beside_near) d_near e_near))
 (fun _ _ _ _ _ => (pg_name (i := 0) (show (["place", "self"] : List Str).Nodup by decide +kernel) rfl (Or.inl rfl))) (fun _ _ _ _ _ => (pts_one (pt_val (pe_meth (pv 1) T.cl_Floor T.m_Floor_has G_Floor_has (HR.mono (by decide)) B_Floor_has .nil pass0 (pa_cons (pv 0) pa_nil (stp rfl)) (hst := stp rfl) (hpl := anp rfl))))) (fun _ _ _ _ _ => (pv 0))))))))), ?_⟩
    obtain ⟨dx, l, h1, h2⟩ := F0.ob
    have w0 := g.w0
    have w1 := g.w1
    have nocol : (flds w h l sg).lookup ("column" : Str) = none := f_no _ _ _ _ (by decide +kernel) (by decide +kernel) (by decide +kernel) (by decide +kernel)
    have nohas : (flds w h l sg).lookup ("has" : Str) = none := f_no _ _ _ _ (by decide +kernel) (by decide +kernel) (by decide +kernel) (by decide +kernel)
    refine tSeq_cut (fun σ H' => ∃ n, H n = none ∧ Same H H' ∧ H' n = some (.lst ([c - (w : Int)].map V.int)) ∧ σ = [some (V.ref p), some (V.int c), some (V.ref n)]) (fun nx hk => ?_) ?_
    · walk_at "RD"
      exact ⟨_, _, _, h1, T.cl_Floor, T.n_Floor_wide, _, f_wide _ _ _ _, _, rfl, by omega, fun n nn => hk _ _ ⟨n, nn, same_new nn, upd_same, rfl⟩⟩
    rintro σ H1 ⟨n, nn, s1, hn, rfl⟩
    refine tSeq_cut (fun σ H' => Same H H' ∧ H' n = some (.lst (([c - (w : Int)] ++ (if c % w > 0 then [c - 1] else [])).map V.int)) ∧ σ = [some (V.ref p), some (V.int c), some (V.ref n)]) (fun nx hk => ?_) ?_
    · walk_at "RD"
      refine ⟨_, _, s1 _ _ h1, nocol, p, w, h, sg, c, rfl, F0.same s1, g, _, rfl, ?_⟩
      split
      · rename_i hc
        refine ⟨.inl ⟨rfl, _, SqL.of hn⟩, _, hn, by simp only [List.map_cons, List.map_nil, List.length_cons, List.length_nil]; omega, hk _ _ ⟨same_upd s1 nn, ?_, rfl⟩⟩
        rw [upd_same, if_pos hc]
        rfl
      · rename_i hc
        refine hk _ _ ⟨s1, ?_, rfl⟩
        rw [hn, if_neg hc]
        rfl
    rintro σ H2 ⟨s2, hn2, rfl⟩
    refine tSeq_cut (fun σ H' => Same H H' ∧ H' n = some (.lst (([c - (w : Int)] ++ (if c % w > 0 then [c - 1] else []) ++ (if c % w < (w : Int) - 1 then [c + 1] else [])).map V.int)) ∧ σ = [some (V.ref p), some (V.int c), some (V.ref n)]) (fun nx hk => ?_) ?_
    · walk_at "RD"
      refine ⟨_, _, s2 _ _ h1, nocol, p, w, h, sg, c, rfl, F0.same s2, g, _, _, _, s2 _ _ h1, T.cl_Floor, T.n_Floor_wide, _, f_wide _ _ _ _, _, rfl, _, rfl, ?_⟩
      split
      · rename_i hc
        refine ⟨.inl ⟨rfl, _, SqL.of hn2⟩, _, hn2, ?_, hk _ _ ⟨same_upd s2 nn, ?_, rfl⟩⟩
        · rw [List.length_map, List.length_append]
          split <;> simp only [List.length_cons, List.length_nil] <;> omega
        · rw [upd_same, if_pos hc]
          simp only [List.map_append, List.map_cons, List.map_nil]
      · rename_i hc
        refine hk _ _ ⟨s2, ?_, rfl⟩
        rw [hn2, if_neg hc, List.append_nil]
    rintro σ H3 ⟨s3, hn3, rfl⟩
    refine tSeq_cut (fun σ H' => Same H H' ∧ H' n = some (.lst ((nearOf w c).map V.int)) ∧ σ = [some (V.ref p), some (V.int c), some (V.ref n)]) (fun nx hk => ?_) ?_
    · walk_at "RD"
      refine ⟨.inl ⟨rfl, _, SqL.of hn3⟩, _, _, _, s3 _ _ h1, T.cl_Floor, T.n_Floor_wide, _, f_wide _ _ _ _, _, rfl, _, hn3, ?_, hk _ _ ⟨same_upd s3 nn, ?_, rfl⟩⟩
      · rw [List.length_map, List.length_append, List.length_append]
        split <;> split <;> simp only [List.length_cons, List.length_nil] <;> omega
      · rw [upd_same]
        unfold nearOf
        simp only [List.map_append, List.map_cons, List.map_nil]
    rintro σ H4 ⟨s4, hn4, rfl⟩
    have F4 := F0.same s4
    walk_at "RD"
    refine ⟨⟨_, SqL.of hn4⟩, comp_pure (src_list (SqL.of hn4)) (hasV sg) (fun v => v) (fun y hy Q hh => ?_) (fun y hy _ Q hh => ?_) ?_ ?_⟩
    · obtain ⟨z, _, rfl⟩ := List.mem_map.mp hy
      walk_at "RD"
      exact ⟨_, _, s4 _ _ h1, nohas, p, w, h, sg, _, rfl, F4, g, ⟨_, .int _⟩, _, rfl, hh⟩
    · walk_at "RD"
      exact hh
    · unfold nearOf
      rw [List.length_map, List.length_append, List.length_append, List.length_append]
      split <;> split <;> simp only [List.length_cons, List.length_nil] <;> omega
    · intro D hD
      have e : ((((nearOf w c).map V.int).filter (hasV sg)).map fun v => v) = (besideOf w sg c).map V.int := by
        rw [List.map_id', besideOf, List.filter_map]
        rfl
      rw [e]
      exact hq D _ (s4.free hD) (s4.trans (same_new hD)) upd_same
theorem sc_Lat : FnScope ["_law_script", "_law_k", "_law_cell"] ["_law_script", "_law_k"] (defScope s_Lat) := ⟨rfl, rfl, rfl, by decide +kernel, rfl, by decide +kernel, by decide +kernel⟩
set_option maxHeartbeats 4000000 in
theorem ok_Lat {fd : FuncData} (F : Fun K "_law_at" "_law_at" s_Lat ad.Lat fd) (T : Txt K mg ad) : FnOk P w K mg base CX0 1 ad.Lat fd ["_law_script", "_law_k"] (spAt K) := by
  refine F.ok sc_Lat (fun vs H Q E h => ?_) (fun cdv A outer s H vs Q E HR h => ?_)
  · obtain ⟨a, ns, k, rfl, _⟩ := h
    rfl
  · obtain ⟨a, ns, k, rfl, hS, hl, h0, h1, hq⟩ := h
    have ND := sc_Lat.nd
    have HU0 := HR.units0
    have HU := HR.units
    have hA := HR.hd
    have hz : (100000 : Nat) ≤ sizeLine := by rw [sizeLine_eq]; decide
    refine ⟨_, (pss_cons (ps_set (i := 2) ND rfl (loc_of (Or.inl l_Lat__law_cell)) pe_int)
 (pss_cons (ps_if (pt_cmpR op_lt (pe_var (i := 1) (x := "_law_k") rfl (vis_of v_Lat__law_k) d__law_k e__law_k) (pe_callB call_len_seq (gl_of g_Lat_len) T.b_len PyProof.Rows.Boot.«len» (pa_cons (pe_var (i := 0) (x := "_law_script") rfl (vis_of v_Lat__law_script) d__law_script e__law_script) pa_nil (stp rfl)) (hn := n_len) (hdb := d_len) (he := stp rfl) (hpl := anp rfl)) (nomark _))
 (pss_one (ps_set (i := 2) ND rfl (loc_of (Or.inl l_Lat__law_cell)) (pe_ix ix_list (pe_var (i := 0) (x := "_law_script") rfl (vis_of v_Lat__law_script) d__law_script e__law_script) (pe_var (i := 1) (x := "_law_k") rfl (vis_of v_Lat__law_k) d__law_k e__law_k) (fun _ _ => rfl))))
 pss_nil)
 (pss_one (ps_ret (pe_op op_mod (pe_op op_mul (pe_op op_add (pe_op op_add (pe_op op_mod (pe_var (i := 2) (x := "_law_cell") rfl (vis_of v_Lat__law_cell) d__law_cell e__law_cell) pe_int) (pe_op op_mul (pe_op op_mul pe_int (pe_var (i := 1) (x := "_law_k") rfl (vis_of v_Lat__law_k) d__law_k e__law_k)) (pe_var (i := 1) (x := "_law_k") rfl (vis_of v_Lat__law_k) d__law_k e__law_k))) pe_int) (pe_op op_add pe_int (pe_op op_mul pe_int (pe_var (i := 1) (x := "_law_k") rfl (vis_of v_Lat__law_k) d__law_k e__law_k)))) pe_int))))), ?_⟩
    walk_at "RD"
    have fin : ∀ i : Int, 0 < (1000000007 : Int) ∧ CMul 7919 k ∧ CMul (7919 * k) k ∧ CMul 2 k ∧ CMul (i % 1000000007 + 7919 * k * k + 31) (48271 + 2 * k) ∧ 0 < (2147483647 : Int) ∧ Q (V.int ((i % 1000000007 + 7919 * k * k + 31) * (48271 + 2 * k) % 2147483647)) H := fun i =>
      ⟨by decide, (by first | (left; constructor <;> omega) | (right; constructor <;> omega)), (by first | (left; constructor <;> omega) | (right; constructor <;> omega)), (by first | (left; constructor <;> omega) | (right; constructor <;> omega)), (by first | (left; constructor <;> omega) | (right; constructor <;> omega)), by decide, hq _ (Int.emod_nonneg _ (by decide)) (Int.emod_lt_of_pos _ (by decide))⟩
    refine ⟨ns.map V.int, .inl hS, ?_⟩
    split
    · rename_i hk
      have hk' : k.toNat < ns.length := by simp at hk; omega
      obtain ⟨j, rfl⟩ := Int.eq_ofNat_of_zero_le h0
      have hj : j < ns.length := by simpa using hk'
      exact ⟨_, hS, .int ns[j], atI_nat (by simp [hj]), _, rfl, fin _⟩
    · exact fin 0
theorem sc_Lmixed : FnScope ["_law_cell", "_law_k"] ["_law_cell", "_law_k"] (defScope s_Lmixed) := ⟨rfl, rfl, rfl, by decide +kernel, rfl, by decide +kernel, by decide +kernel⟩
set_option maxHeartbeats 4000000 in
theorem ok_Lmixed {fd : FuncData} (F : Fun K "_law_mixed" "_law_mixed" s_Lmixed ad.Lmixed fd) (T : Txt K mg ad) : FnOk P w K mg base CX0 1 ad.Lmixed fd ["_law_cell", "_law_k"] (spMixed) := by
  refine F.ok sc_Lmixed (fun vs H Q E h => ?_) (fun cdv A outer s H vs Q E HR h => ?_)
  · obtain ⟨c, k, rfl, _⟩ := h
    rfl
  · obtain ⟨c, k, rfl, c0, c1, k0, k1, hq⟩ := h
    have ND := sc_Lmixed.nd
    have HU0 := HR.units0
    have HU := HR.units
    have hA := HR.hd
    have hz : (100000 : Nat) ≤ sizeLine := by rw [sizeLine_eq]; decide
    refine ⟨_, (pss_one (ps_ret (pe_op op_mod (pe_op op_mul (pe_op op_add (pe_op op_add (pe_op op_fdiv (pe_var (i := 0) (x := "_law_cell") rfl (vis_of v_Lmixed__law_cell) d__law_cell e__law_cell) pe_int) (pe_op op_mul (pe_op op_mul pe_int (pe_var (i := 1) (x := "_law_k") rfl (vis_of v_Lmixed__law_k) d__law_k e__law_k)) (pe_var (i := 1) (x := "_law_k") rfl (vis_of v_Lmixed__law_k) d__law_k e__law_k))) pe_int) (pe_op op_add pe_int (pe_op op_mul pe_int (pe_var (i := 1) (x := "_law_k") rfl (vis_of v_Lmixed__law_k) d__law_k e__law_k)))) pe_int))), ?_⟩
    walk_at "RD"
    exact ⟨⟨by decide, by decide⟩, .inl ⟨by decide, by decide⟩, .inr ⟨by omega, by omega⟩, .inl ⟨by decide, by decide⟩, .inr ⟨by omega, by omega⟩, by decide, hq _ (Int.emod_nonneg _ (by decide)) (Int.emod_lt_of_pos _ (by decide))⟩
theorem sc_Lwhole : FnScope ["_law_thing"] ["_law_thing"] (defScope s_Lwhole) := ⟨rfl, rfl, rfl, by decide +kernel, rfl, by decide +kernel, by decide +kernel⟩
set_option maxHeartbeats 4000000 in
theorem ok_Lwhole {fd : FuncData} (F : Fun K "_law_whole" "_law_whole" s_Lwhole ad.Lwhole fd) (T : Txt K mg ad) : FnOk P w K mg base CX0 1 ad.Lwhole fd ["_law_thing"] (spWhole K) := by
  refine F.ok sc_Lwhole (fun vs H Q E h => ?_) (fun cdv A outer s H vs Q E HR h => ?_)
  · obtain ⟨x, rfl, _⟩ := h
    rfl
  · obtain ⟨x, rfl, ty, hq⟩ := h
    have ND := sc_Lwhole.nd
    have HU0 := HR.units0
    have HU := HR.units
    have hA := HR.hd
    have hz : (100000 : Nat) ≤ sizeLine := by rw [sizeLine_eq]; decide
    refine ⟨_, (pss_one (ps_ret (pe_and (pe_callB call_isinst (gl_of g_Lwhole_isinstance) T.b_isinstance PyProof.Rows.Boot.«isinstance» (pa_cons (pe_var (i := 0) (x := "_law_thing") rfl (vis_of v_Lwhole__law_thing) d__law_thing e__law_thing) (pa_cons (pe_bltn (v := .ty "int") (gl_of g_Lwhole_int) T.b_int PyProof.Rows.Boot.«int» rfl (hn := n_int) (hd := d_int)) pa_nil (stp rfl)) (stp rfl)) (hn := n_isinstance) (hdb := d_isinstance) (he := stp rfl) (hpl := anp rfl)) (pe_one (pe_not (pe_callB call_isinst (gl_of g_Lwhole_isinstance) T.b_isinstance PyProof.Rows.Boot.«isinstance» (pa_cons (pe_var (i := 0) (x := "_law_thing") rfl (vis_of v_Lwhole__law_thing) d__law_thing e__law_thing) (pa_cons (pe_bltn (v := .ty "bool") (gl_of g_Lwhole_bool) T.b_bool PyProof.Rows.Boot.«bool» rfl (hn := n_bool) (hd := d_bool)) pa_nil (stp rfl)) (stp rfl)) (hn := n_isinstance) (hdb := d_isinstance) (he := stp rfl) (hpl := anp rfl))))))), ?_⟩
    obtain ⟨n, ty⟩ := ty
    have e1 := kit_int ty
    have e2 := kit_bool ty
    walk_at "RD"
    refine ⟨_, ty, _, e1, ?_⟩
    cases hb : isIB x with
    | true =>
      rw [if_pos rfl]
      refine ⟨_, ty, _, e2, ?_⟩
      cases x <;> simp_all [isI, isB, isIB]
    | false =>
      rw [if_neg (by decide)]
      cases x <;> simp_all [isI, isB, isIB]
theorem sc_Llines : FnScope ["_law_script", "_law_k", "_law_most", "_law_first", "_law_wide", "_law_high", "_law_signs", "_law_text", "_law_j"] ["_law_script", "_law_k", "_law_most"] (defScope s_Llines) := ⟨rfl, rfl, rfl, by decide +kernel, rfl, by decide +kernel, by decide +kernel⟩
set_option maxHeartbeats 4000000 in
theorem ok_Llines {fd : FuncData} (F : Fun K "_law_lines" "_law_lines" s_Llines ad.Llines fd) (T : Txt K mg ad) {fd_Lat : FuncData} (G_Lat : FnOk P w K mg base CX0 1 ad.Lat fd_Lat ["_law_script", "_law_k"] (spAt K)) (B_Lat : Binds K fd_Lat ["_law_script", "_law_k"] []) {fd_Lmixed : FuncData} (G_Lmixed : FnOk P w K mg base CX0 1 ad.Lmixed fd_Lmixed ["_law_cell", "_law_k"] (spMixed)) (B_Lmixed : Binds K fd_Lmixed ["_law_cell", "_law_k"] []) : FnOk P w K mg base CX0 2 ad.Llines fd ["_law_script", "_law_k", "_law_most"] (spLines K) := by
  refine F.ok sc_Llines (fun vs H Q E h => ?_) (fun cdv A outer s H vs Q E HR h => ?_)
  · obtain ⟨a, ns, k, m, rfl, _⟩ := h
    rfl
  · obtain ⟨a, ns, k, m, rfl, hS, hl, k0, k1, m0, m1, hq⟩ := h
    have ND := sc_Llines.nd
    have HU0 := HR.units0
    have HU := HR.units
    have hA := HR.hd
    have hz : (100000 : Nat) ≤ sizeLine := by rw [sizeLine_eq]; decide
    refine ⟨_, (pss_cons (ps_set (i := 3) ND rfl (loc_of (Or.inl l_Llines__law_first)) (pe_call G_Lat (HR.mono (by decide)) (gl_of g_Llines__law_at) T.mg_Lat T.k_Lat B_Lat .nil pass0 (pa_cons (pe_var (i := 0) (x := "_law_script") rfl (vis_of v_Llines__law_script) d__law_script e__law_script) (pa_cons (pe_var (i := 1) (x := "_law_k") rfl (vis_of v_Llines__law_k) d__law_k e__law_k) pa_nil (stp rfl)) (stp rfl)) (hdb := d__law_at) (he := stp rfl) (hpl := anp rfl)))
 (pss_cons (ps_set (i := 4) ND rfl (loc_of (Or.inr l_Llines__law_wide)) (pe_op op_add pe_int (pe_op op_mod (pe_op op_fdiv (pe_var (i := 3) (x := "_law_first") rfl (vis_of v_Llines__law_first) d__law_first e__law_first) pe_int) (pe_var (i := 2) (x := "_law_most") rfl (vis_of v_Llines__law_most) d__law_most e__law_most))))
 (pss_cons (ps_set (i := 5) ND rfl (loc_of (Or.inl l_Llines__law_high)) (pe_op op_add pe_int (pe_op op_mod (pe_op op_fdiv (pe_var (i := 3) (x := "_law_first") rfl (vis_of v_Llines__law_first) d__law_first e__law_first) pe_int) (pe_var (i := 2) (x := "_law_most") rfl (vis_of v_Llines__law_most) d__law_most e__law_most))))
 (pss_cons (ps_set (i := 6) ND rfl (loc_of (Or.inl l_Llines__law_signs)) (pe_ix ix_list (pe_lst (pa_cons pe_str (pa_cons pe_str (pa_cons pe_str (pa_cons pe_str (pa_cons pe_str pa_nil (stp rfl)) (stp rfl)) (stp rfl)) (stp rfl)) (stp rfl))) (pe_op op_mod (pe_op op_fdiv (pe_var (i := 3) (x := "_law_first") rfl (vis_of v_Llines__law_first) d__law_first e__law_first) pe_int) pe_int) (fun _ _ => rfl)))
 (pss_cons (ps_set (i := 7) ND rfl (loc_of (Or.inr l_Llines__law_text)) pe_str)
 (pss_cons (ps_for PassesOwn.never rfl (pi_range1 (gl_of g_Llines_range) T.b_range (pa_cons (pe_op op_mul (pe_var (i := 4) (x := "_law_wide") rfl (vis_of v_Llines__law_wide) d__law_wide e__law_wide) (pe_var (i := 5) (x := "_law_high") rfl (vis_of v_Llines__law_high) d__law_high e__law_high)) pa_nil (stp rfl)) (st1 rfl)) (pg_name (i := 8) ND rfl (loc_of (Or.inl l_Llines__law_j)))
 (pss_one (ps_set (i := 7) ND rfl (loc_of (Or.inr l_Llines__law_text)) (pe_op op_add_str (pe_var (i := 7) (x := "_law_text") rfl (vis_of v_Llines__law_text) d__law_text e__law_text) (pe_ix ix_str (pe_var (i := 6) (x := "_law_signs") rfl (vis_of v_Llines__law_signs) d__law_signs e__law_signs) (pe_op op_mod (pe_op op_fdiv (pe_call G_Lmixed (HR.mono (by decide)) (gl_of g_Llines__law_mixed) T.mg_Lmixed T.k_Lmixed B_Lmixed .nil pass0 (pa_cons (pe_call G_Lat (HR.mono (by decide)) (gl_of g_Llines__law_at) T.mg_Lat T.k_Lat B_Lat .nil pass0 (pa_cons (pe_var (i := 0) (x := "_law_script") rfl (vis_of v_Llines__law_script) d__law_script e__law_script) (pa_cons (pe_op op_add (pe_op op_add (pe_var (i := 1) (x := "_law_k") rfl (vis_of v_Llines__law_k) d__law_k e__law_k) pe_int) (pe_op op_mod (pe_var (i := 8) (x := "_law_j") rfl (vis_of v_Llines__law_j) d__law_j e__law_j) pe_int)) pa_nil (stp rfl)) (stp rfl)) (hdb := d__law_at) (he := stp rfl) (hpl := anp rfl)) (pa_cons (pe_var (i := 8) (x := "_law_j") rfl (vis_of v_Llines__law_j) d__law_j e__law_j) pa_nil (stp rfl)) (stp rfl)) (hdb := d__law_mixed) (he := stp rfl) (hpl := anp rfl)) pe_int) (pe_callB call_len_str (gl_of g_Llines_len) T.b_len PyProof.Rows.Boot.«len» (pa_cons (pe_var (i := 6) (x := "_law_signs") rfl (vis_of v_Llines__law_signs) d__law_signs e__law_signs) pa_nil (stp rfl)) (hn := n_len) (hdb := d_len) (he := stp rfl) (hpl := anp rfl))) (fun _ _ => rfl))))))
 (pss_cons (ps_if (pt_cmpR op_eq (pe_var (i := 7) (x := "_law_text") rfl (vis_of v_Llines__law_text) d__law_text e__law_text) (pe_op op_mul_str pe_str (pe_callB call_len_str (gl_of g_Llines_len) T.b_len PyProof.Rows.Boot.«len» (pa_cons (pe_var (i := 7) (x := "_law_text") rfl (vis_of v_Llines__law_text) d__law_text e__law_text) pa_nil (stp rfl)) (hn := n_len) (hdb := d_len) (he := stp rfl) (hpl := anp rfl))) (nomark _))
 (pss_one (ps_set (i := 7) ND rfl (loc_of (Or.inr l_Llines__law_text)) (pe_op op_add_str pe_str (pe_sliceS (pe_var (i := 7) (x := "_law_text") rfl (vis_of v_Llines__law_text) d__law_text e__law_text) (po_some pe_int) po_none))))
 pss_nil)
 (pss_one (ps_ret (pe_comp (CompScope.of (osc := defScope s_Llines) (tn := ["_law_j"]) (cn := ["_law_text", "_law_wide"]) (caps := [7, 4]) rfl rfl (by decide +kernel) (by decide +kernel) (by decide +kernel) (by decide +kernel) rfl) rfl  (pi_range1 (gl_of g_Llines_range) T.b_range (pa_cons (pe_var (i := 5) (x := "_law_high") rfl (vis_of v_Llines__law_high) d__law_high e__law_high) pa_nil (stp rfl)) (st1 rfl))
 (fun _ _ _ _ _ => (pg_name (i := 0) (show (["_law_j", "_law_text", "_law_wide"] : List Str).Nodup by decide +kernel) rfl (Or.inl rfl))) (fun _ _ _ _ _ => pts_nil) (fun _ _ _ _ _ => (pe_sliceS (pv 1) (po_some (pe_op op_mul (pv 2) (pv 0))) (po_some (pe_op op_add (pe_op op_mul (pv 2) (pv 0)) (pv 2))))))))))))))), ?_⟩
    have tab : ∀ i : Int, ∃ z : Str, atI [V.str (Str.ofString ".....+#~|."), V.str (Str.ofString "..+#~|..#."), V.str (Str.ofString "+~|~.|~+.."), V.str (Str.ofString ".#.#.+.|.~"), V.str (Str.ofString "|+.#")] (i / 847 % 5) = some (V.str z) ∧ 1 ≤ z.length ∧ z.length ≤ 10 ∧ (∀ c ∈ z.cps.toList, sgOk c) := fun i => by
      have h5 : i / 847 % 5 = 0 ∨ i / 847 % 5 = 1 ∨ i / 847 % 5 = 2 ∨ i / 847 % 5 = 3 ∨ i / 847 % 5 = 4 := by omega
      unfold sgOk
      rcases h5 with h | h | h | h | h <;> rw [h] <;> exact ⟨_, rfl, by decide +kernel, by decide +kernel, by decide +kernel⟩
    refine tSeq_cut (fun σ H' => ∃ c : Int, 0 ≤ c ∧ H' = H ∧ σ = [some (V.ref a), some (V.int k), some (V.int m), some (V.int c), none, none, none, none, none]) (fun nx hk => ?_) ?_
    · walk_at "RD"
      exact ⟨_, _, _, rfl, hS, hl, k0, by omega, fun r r0 r1 => hk _ _ ⟨r, r0, rfl, rfl⟩⟩
    rintro σ H1 ⟨c, c0, rfl, rfl⟩
    refine tSeq_cut (fun σ H' => ∃ w : Nat, 1 ≤ w ∧ w ≤ 10 ∧ H' = H1 ∧ σ = [some (V.ref a), some (V.int k), some (V.int m), some (V.int c), some (V.int (w : Int)), none, none, none, none]) (fun nx hk => ?_) ?_
    · walk_at "RD"
      have e1 := Int.emod_nonneg (c / 7) (show m ≠ 0 by omega)
      have e2 := Int.emod_lt_of_pos (c / 7) (show 0 < m by omega)
      exact ⟨⟨by decide, by decide⟩, by omega, hk _ _ ⟨(1 + c / 7 % m).toNat, by omega, by omega, rfl, by rw [Int.toNat_of_nonneg (by omega)]⟩⟩
    rintro σ H2 ⟨w, w0, w1, rfl, rfl⟩
    refine tSeq_cut (fun σ H' => ∃ h : Nat, 1 ≤ h ∧ h ≤ 10 ∧ H' = H2 ∧ σ = [some (V.ref a), some (V.int k), some (V.int m), some (V.int c), some (V.int (w : Int)), some (V.int (h : Int)), none, none, none]) (fun nx hk => ?_) ?_
    · walk_at "RD"
      have e1 := Int.emod_nonneg (c / 77) (show m ≠ 0 by omega)
      have e2 := Int.emod_lt_of_pos (c / 77) (show 0 < m by omega)
      exact ⟨⟨by decide, by decide⟩, by omega, hk _ _ ⟨(1 + c / 77 % m).toNat, by omega, by omega, rfl, by rw [Int.toNat_of_nonneg (by omega)]⟩⟩
    rintro σ H3 ⟨h, h0, h1, rfl, rfl⟩
    refine tSeq_cut (fun σ H' => ∃ z : Str, 1 ≤ z.length ∧ z.length ≤ 10 ∧ (∀ c ∈ z.cps.toList, sgOk c) ∧ Same H3 H' ∧ σ = [some (V.ref a), some (V.int k), some (V.int m), some (V.int c), some (V.int (w : Int)), some (V.int (h : Int)), some (V.str z), none, none]) (fun nx hk => ?_) ?_
    · walk_at "RD"
      obtain ⟨z, hz1, hz2, hz3, hz4⟩ := tab c
      exact ⟨by omega, fun p np => ⟨⟨by decide, by decide⟩, by decide, _, SqL.of upd_same, _, hz1, hk _ _ ⟨z, hz2, hz3, hz4, same_new np, rfl⟩⟩⟩
    rintro σ H4 ⟨z, z0, z1, zok, s4, rfl⟩
    have hS4 := s4.seq hS
    have hwh : w * h ≤ 100 := Nat.mul_le_mul w1 h1
    have hwh1 : 1 ≤ w * h := Nat.mul_le_mul w0 h0
    have em : ((w : Int) * (h : Int)) = ((w * h : Nat) : Int) := by simp
    refine tSeq_cut (fun σ H' => H' = H4 ∧ σ = [some (V.ref a), some (V.int k), some (V.int m), some (V.int c), some (V.int (w : Int)), some (V.int (h : Int)), some (V.str z), some (V.str (txt [])), none]) (fun nx hk => ?_) ?_
    · walk_at "RD"
      exact hk _ _ ⟨rfl, by rw [show Str.ofString "" = txt [] from str_ext (by decide +kernel)]⟩
    rintro σ H5 ⟨rfl, rfl⟩
    refine tSeq_cut (fun σ H' => ∃ (cs : List Nat) (j : Option V), cs.length = w * h ∧ (∀ c ∈ cs, sgOk c) ∧ H' = H5 ∧ σ = [some (V.ref a), some (V.int k), some (V.int m), some (V.int c), some (V.int (w : Int)), some (V.int (h : Int)), some (V.str z), some (V.str (txt cs)), j]) (fun nx hk => ?_) ?_
    · walk_at "RD"
      refine ⟨.inl ⟨by omega, by omega⟩, by rw [em]; omega, by rw [em]; omega, for_range (fun i σ H' => ∃ (cs : List Nat) (j : Option V), cs.length = i ∧ (∀ c ∈ cs, sgOk c) ∧ H' = H5 ∧ σ = [some (V.ref a), some (V.int k), some (V.int m), some (V.int c), some (V.int (w : Int)), some (V.int (h : Int)), some (V.str z), some (V.str (txt cs)), j]) ⟨[], none, rfl, by simp, rfl, rfl⟩ ?_ ?_⟩
      · rintro i σ H' hi ⟨cs, j, hcs, cok, rfl, rfl⟩
        have hi' : i < w * h := by rw [em] at hi; omega
        walk_at "RD"
        refine ⟨by decide, _, _, _, rfl, hS4, hl, by omega, by omega, fun r r0 r1 => ⟨_, _, rfl, r0, r1, by omega, by omega, fun q q0 q1 => ⟨_, rfl, ⟨by decide, by decide⟩, by omega, by omega, by omega, ?_⟩⟩⟩
        have e1 := Int.emod_nonneg (q / 11) (show (z.length : Int) ≠ 0 by omega)
        have e2 := Int.emod_lt_of_pos (q / 11) (show (0 : Int) < z.length by omega)
        obtain ⟨t, ht⟩ := Int.eq_ofNat_of_zero_le e1
        rw [ht] at e2 ⊢
        have ht2 : t < z.cps.toList.length := by rw [str_len_list]; omega
        refine ⟨z.cps.toList[t], atI_nat (List.getElem?_eq_getElem ht2), ?_, cs ++ [z.cps.toList[t]], by simp; omega, ?_, rfl, ?_, _, rfl⟩
        · rw [txt_len]
          show cs.length + 1 ≤ sizeLine
          omega
        · intro c hc
          rcases List.mem_append.mp hc with y | y
          · exact cok c y
          · have : c = z.cps.toList[t] := by simpa using y
            rw [this]
            exact zok _ (List.getElem_mem ht2)
        · refine str_ext ?_
          rw [str_app_list, txt_list, txt_list]
      · rintro σ H' ⟨cs, j, hcs, cok, rfl, rfl⟩
        exact hk _ _ ⟨cs, j, by rw [hcs, em, Int.toNat_natCast], cok, rfl, rfl⟩
    rintro σ H6 ⟨cs, j, hcs, cok, rfl, rfl⟩
    refine tSeq_cut (fun σ H' => ∃ (cs : List Nat), Good w h cs ∧ H' = H6 ∧ σ = [some (V.ref a), some (V.int k), some (V.int m), some (V.int c), some (V.int (w : Int)), some (V.int (h : Int)), some (V.str z), some (V.str (txt cs)), j]) (fun nx hk => ?_) ?_
    · walk_at "RD"
      have eq7 : (Txt.mul (Str.ofString "#") (((txt cs).length : Nat) : Int)).cps.toList = List.replicate cs.length 35 := by
        rw [mul_list, txt_len]
        have e : (Str.ofString "#").cps.toList = [35] := by decide +kernel
        rw [e]
        generalize cs.length = n
        induction n with
        | zero => rfl
        | succ n ih => rw [List.replicate_succ, List.flatten_cons, ih, List.replicate_succ]; rfl
      have l1 : (Str.ofString "#").length = 1 := by decide +kernel
      have lx : (txt cs).length = w * h := by rw [txt_len, hcs]
      refine ⟨by omega, mul_ok _ _ (by omega) (by rw [l1, Nat.one_mul]; omega), ?_⟩
      split
      · have ld : (Str.ofString ".").length = 1 := by decide +kernel
        have sl := Txt.slice_le (txt cs) (some 1) none
        refine ⟨by omega, by omega, hk _ _ ⟨46 :: cs.drop 1, ⟨w0, w1, h0, h1, ?_, ?_, 46, by simp, by decide⟩, rfl, ?_⟩⟩
        · rw [List.length_cons, List.length_drop]; omega
        · intro c hc
          rcases List.mem_cons.mp hc with y | y
          · exact .inl y
          · exact cok c (List.mem_of_mem_drop y)
        · have : Str.ofString "." ++ Txt.slice (txt cs) (some 1) none = txt (46 :: cs.drop 1) := by
            refine str_ext ?_
            rw [str_app_list, slice_from1, txt_list]
            have e : (Str.ofString ".").cps.toList = [46] := by decide +kernel
            rw [e]
            rfl
          rw [this]
      · rename_i hne
        refine hk _ _ ⟨cs, ⟨w0, w1, h0, h1, hcs, cok, ?_⟩, rfl, rfl⟩
        apply Classical.byContradiction
        intro hno
        refine hne (str_ext ?_)
        rw [eq7, txt_list]
        refine List.eq_replicate_iff.mpr ⟨rfl, fun c hc => ?_⟩
        apply Classical.byContradiction
        intro h35
        exact hno ⟨c, hc, h35⟩
    rintro σ H7 ⟨sg, g, rfl, rfl⟩
    have l100 := len100 g
    walk_at "RD"
    refine ⟨by omega, by omega, ?_⟩
    rw [Int.toNat_natCast]
    refine comp_pure src_range (fun _ => true) (lineV w sg) (fun y hy Q hh => hh) (fun y hy _ Q hh => ?_) (by rw [List.length_map, List.length_range]; omega) ?_
    · obtain ⟨i, hi, rfl⟩ := List.mem_map.mp hy
      walk_at "RD"
      refine ⟨.inl ⟨by omega, by omega⟩, .inl ⟨by omega, by omega⟩, by rw [txt_len]; omega, hh⟩
    · intro D hD
      have e : (((List.range h).map fun i => V.int (0 + ((i : Nat) : Int))).filter fun _ => true).map (lineV w sg) = (linesOf w h sg).map V.str := by
        rw [List.filter_eq_self.mpr (fun _ _ => rfl), List.map_map, Fl.linesOf, List.map_map]
        refine List.map_congr_left fun i hi => ?_
        have hi' := List.mem_range.mp hi
        show V.str _ = V.str _
        rw [← slice_line g.len hi']
        congr 3
        · simp
        · simp
      rw [e]
      exact hq D _ w h sg (s4.free hD) (s4.trans (same_new hD)) upd_same g
theorem sc_Lsign : FnScope ["_law_lines_here", "_law_cell"] ["_law_lines_here", "_law_cell"] (defScope s_Lsign) := ⟨rfl, rfl, rfl, by decide +kernel, rfl, by decide +kernel, by decide +kernel⟩
set_option maxHeartbeats 4000000 in
theorem ok_Lsign {fd : FuncData} (F : Fun K "_law_sign" "_law_sign" s_Lsign ad.Lsign fd) (T : Txt K mg ad) : FnOk P w K mg base CX0 1 ad.Lsign fd ["_law_lines_here", "_law_cell"] (spLSign) := by
  refine F.ok sc_Lsign (fun vs H Q E h => ?_) (fun cdv A outer s H vs Q E HR h => ?_)
  · obtain ⟨l, w, h, sg, c, rfl, _⟩ := h
    rfl
  · obtain ⟨l, w, h, sg, c, rfl, hL, g, c0, c1, hq⟩ := h
    have ND := sc_Lsign.nd
    have HU0 := HR.units0
    have HU := HR.units
    have hA := HR.hd
    have hz : (100000 : Nat) ≤ sizeLine := by rw [sizeLine_eq]; decide
    refine ⟨_, (pss_one (ps_ret (pe_ix ix_str (pe_ix ix_list (pe_var (i := 0) (x := "_law_lines_here") rfl (vis_of v_Lsign__law_lines_here) d__law_lines_here e__law_lines_here) (pe_op op_fdiv (pe_var (i := 1) (x := "_law_cell") rfl (vis_of v_Lsign__law_cell) d__law_cell e__law_cell) (pe_callB call_len_str (gl_of g_Lsign_len) T.b_len PyProof.Rows.Boot.«len» (pa_cons (pe_ix ix_list (pe_var (i := 0) (x := "_law_lines_here") rfl (vis_of v_Lsign__law_lines_here) d__law_lines_here e__law_lines_here) pe_int (fun _ _ => rfl)) pa_nil (stp rfl)) (hn := n_len) (hdb := d_len) (he := stp rfl) (hpl := anp rfl))) (fun _ _ => rfl)) (pe_op op_mod (pe_var (i := 1) (x := "_law_cell") rfl (vis_of v_Lsign__law_cell) d__law_cell e__law_cell) (pe_callB call_len_str (gl_of g_Lsign_len) T.b_len PyProof.Rows.Boot.«len» (pa_cons (pe_ix ix_list (pe_var (i := 0) (x := "_law_lines_here") rfl (vis_of v_Lsign__law_lines_here) d__law_lines_here e__law_lines_here) pe_int (fun _ _ => rfl)) pa_nil (stp rfl)) (hn := n_len) (hdb := d_len) (he := stp rfl) (hpl := anp rfl))) (fun _ _ => rfl)))), ?_⟩
    have w0 := g.w0
    have w1 := g.w1
    have h0 := g.h0
    obtain ⟨j1, d0, q0, q1, e⟩ := sign_eq g c0 c1
    have e0 : atI ((linesOf w h sg).map V.str) 0 = some (V.str (lineOf w sg 0)) := atI_nat (j := 0) (by rw [List.getElem?_map, lines_get (by omega)]; rfl)
    have eL := line_len g (show 0 < h by omega)
    have eR := line_len g j1
    have ec : atI ((linesOf w h sg).map V.str) (c / w) = some (V.str (lineOf w sg (c / w).toNat)) := by
      obtain ⟨j, hj⟩ := Int.eq_ofNat_of_zero_le d0
      rw [hj] at j1 ⊢
      exact atI_nat (by rw [List.getElem?_map, lines_get (by simpa using j1)]; rfl)
    have er : atI (lineOf w sg (c / w).toNat).cps.toList (c % w) = some (at_ sg c) := by
      obtain ⟨r, hr⟩ := Int.eq_ofNat_of_zero_le q0
      rw [hr] at e ⊢
      exact atI_nat (by simpa using e)
    walk_at "RD"
    refine ⟨_, SqL.of hL, _, e0, _, rfl, by rw [eL]; omega, ?_⟩
    rw [eL]
    refine ⟨⟨by omega, by omega⟩, _, SqL.of hL, _, ec, _, SqL.of hL, _, e0, _, rfl, by rw [eL]; omega, ?_⟩
    rw [eL]
    exact ⟨by omega, _, rfl, by rw [eR]; omega, _, er, hq⟩
theorem sc_Lcells : FnScope ["_law_lines_here"] ["_law_lines_here"] (defScope s_Lcells) := ⟨rfl, rfl, rfl, by decide +kernel, rfl, by decide +kernel, by decide +kernel⟩
set_option maxHeartbeats 4000000 in
theorem ok_Lcells {fd : FuncData} (F : Fun K "_law_cells" "_law_cells" s_Lcells ad.Lcells fd) (T : Txt K mg ad) {fd_Lsign : FuncData} (G_Lsign : FnOk P w K mg base CX0 1 ad.Lsign fd_Lsign ["_law_lines_here", "_law_cell"] (spLSign)) (B_Lsign : Binds K fd_Lsign ["_law_lines_here", "_law_cell"] []) : FnOk P w K mg base CX0 2 ad.Lcells fd ["_law_lines_here"] (spLCells) := by
  refine F.ok sc_Lcells (fun vs H Q E h => ?_) (fun cdv A outer s H vs Q E HR h => ?_)
  · obtain ⟨l, w, h, sg, rfl, _⟩ := h
    rfl
  · obtain ⟨l, w, h, sg, rfl, hL, g, hq⟩ := h
    have ND := sc_Lcells.nd
    have HU0 := HR.units0
    have HU := HR.units
    have hA := HR.hd
    have hz : (100000 : Nat) ≤ sizeLine := by rw [sizeLine_eq]; decide
    refine ⟨_, (pss_one (ps_ret (pe_comp (CompScope.of (osc := defScope s_Lcells) (tn := ["_law_cell"]) (cn := ["_law_lines_here"]) (caps := [0]) rfl rfl (by decide +kernel) (by decide +kernel) (by decide +kernel) (by decide +kernel) rfl) rfl  (pi_range1 (gl_of g_Lcells_range) T.b_range (pa_cons (pe_op op_mul (pe_callB call_len_seq (gl_of g_Lcells_len) T.b_len PyProof.Rows.Boot.«len» (pa_cons (pe_var (i := 0) (x := "_law_lines_here") rfl (vis_of v_Lcells__law_lines_here) d__law_lines_here e__law_lines_here) pa_nil (stp rfl)) (hn := n_len) (hdb := d_len) (he := stp rfl) (hpl := anp rfl)) (pe_callB call_len_str (gl_of g_Lcells_len) T.b_len PyProof.Rows.Boot.«len» (pa_cons (pe_ix ix_list (pe_var (i := 0) (x := "_law_lines_here") rfl (vis_of v_Lcells__law_lines_here) d__law_lines_here e__law_lines_here) pe_int (fun _ _ => rfl)) pa_nil (stp rfl)) (hn := n_len) (hdb := d_len) (he := stp rfl) (hpl := anp rfl))) pa_nil (stp rfl)) (st1 rfl))
 (fun _ _ _ _ _ => (pg_name (i := 0) (show (["_law_cell", "_law_lines_here"] : List Str).Nodup by decide +kernel) rfl (Or.inl rfl))) (fun _ _ _ _ _ => (pts_one (pt_cmpR op_ne (pe_call G_Lsign (HR.mono (by decide)) (by rfl) T.mg_Lsign T.k_Lsign B_Lsign .nil pass0 (pa_cons (pv 1) (pa_cons (pv 0) pa_nil (stp rfl)) (stp rfl)) (hdb := d__law_sign) (he := stp rfl) (hpl := anp rfl)) pe_str (nomark _)))) (fun _ _ _ _ _ => (pv 0))))), ?_⟩
    have w0 := g.w0
    have w1 := g.w1
    have h0 := g.h0
    have h1 := g.h1
    have len := g.len
    have l100 := len100 g
    have e0 : atI ((linesOf w h sg).map V.str) 0 = some (V.str (lineOf w sg 0)) := atI_nat (j := 0) (by rw [List.getElem?_map, lines_get (by omega)]; rfl)
    have eL := line_len g (show 0 < h by omega)
    have em : ((h : Int) * (w : Int)) = ((sg.length : Nat) : Int) := by rw [len, Nat.mul_comm]; simp
    walk_at "RD"
    refine ⟨_, .inl (SqL.of hL), _, SqL.of hL, _, e0, _, rfl, by rw [eL]; omega, ?_⟩
    rw [eL, List.length_map, lines_len]
    refine ⟨.inl ⟨by omega, by omega⟩, by rw [em]; omega, by rw [em]; omega, ?_⟩
    rw [em, Int.toNat_natCast]
    refine comp_pure src_range (noWall sg) (fun v => v) (fun y hy Q hh => ?_) (fun y hy _ Q hh => ?_) (by rw [List.length_map, List.length_range]; omega) ?_
    · obtain ⟨i, hi, rfl⟩ := List.mem_map.mp hy
      have hi' := List.mem_range.mp hi
      walk_at "RD"
      refine ⟨l, w, h, sg, _, rfl, hL, g, by omega, by omega, rfl, ?_⟩
      have e : noWall sg (V.int (0 + ((i : Nat) : Int))) = !decide (chr1 (at_ sg (0 + ((i : Nat) : Int))) = V.str (Str.ofString "#")) := by
        show (!decide _) = _
        congr 1
        refine decide_eq_decide.mpr ⟨fun z => ?_, fun z => ?_⟩
        · show V.str _ = V.str _
          rw [(wall_eq _).mpr z]
        · exact (wall_eq _).mp (V.str.inj z)
      rw [e] at hh
      exact hh
    · walk_at "RD"
      exact hh
    · intro D hD
      have e : ((((List.range sg.length).map fun i => V.int (0 + ((i : Nat) : Int))).filter (noWall sg)).map fun v => v) = (cellsOf sg).map V.int := by
        rw [List.map_id', cellsOf, places]
        have : ((List.range sg.length).map fun i => V.int (0 + ((i : Nat) : Int))) = ((List.range sg.length).map fun i => ((i : Nat) : Int)).map V.int := by
          rw [List.map_map]
          refine List.map_congr_left fun i _ => ?_
          simp
        rw [this, List.filter_map]
        rfl
      rw [e]
      exact hq D _ hD (same_new hD) upd_same
theorem sc_Lbeside : FnScope ["_law_lines_here", "_law_cell", "_law_wide", "_law_found", "_law_other", "_law_down", "_law_across"] ["_law_lines_here", "_law_cell"] (defScope s_Lbeside) := ⟨rfl, rfl, rfl, by decide +kernel, rfl, by decide +kernel, by decide +kernel⟩
set_option maxHeartbeats 4000000 in
theorem ok_Lbeside {fd : FuncData} (F : Fun K "_law_beside" "_law_beside" s_Lbeside ad.Lbeside fd) (T : Txt K mg ad) {fd_Lcells : FuncData} (G_Lcells : FnOk P w K mg base CX0 2 ad.Lcells fd_Lcells ["_law_lines_here"] (spLCells)) (B_Lcells : Binds K fd_Lcells ["_law_lines_here"] []) : FnOk P w K mg base CX0 3 ad.Lbeside fd ["_law_lines_here", "_law_cell"] (spLBeside) := by
  refine F.ok sc_Lbeside (fun vs H Q E h => ?_) (fun cdv A outer s H vs Q E HR h => ?_)
  · obtain ⟨l, w, h, sg, c, rfl, _⟩ := h
    rfl
  · obtain ⟨l, w, h, sg, c, rfl, hL, g, c0, c1, hq⟩ := h
    have ND := sc_Lbeside.nd
    have HU0 := HR.units0
    have HU := HR.units
    have hA := HR.hd
    have hz : (100000 : Nat) ≤ sizeLine := by rw [sizeLine_eq]; decide
    refine ⟨_, (pss_cons (ps_set (i := 2) ND rfl (loc_of (Or.inl l_Lbeside__law_wide)) (pe_callB call_len_str (gl_of g_Lbeside_len) T.b_len PyProof.Rows.Boot.«len» (pa_cons (pe_ix ix_list (pe_var (i := 0) (x := "_law_lines_here") rfl (vis_of v_Lbeside__law_lines_here) d__law_lines_here e__law_lines_here) pe_int (fun _ _ => rfl)) pa_nil (stp rfl)) (hn := n_len) (hdb := d_len) (he := stp rfl) (hpl := anp rfl)))
 (pss_cons (ps_set (i := 3) ND rfl (loc_of (Or.inl l_Lbeside__law_found)) (pe_lst pa_nil))
 (pss_cons (ps_for PassesOwn.never rfl (pi_list (pe_call G_Lcells (HR.mono (by decide)) (gl_of g_Lbeside__law_cells) T.mg_Lcells T.k_Lcells B_Lcells .nil pass0 (pa_cons (pe_var (i := 0) (x := "_law_lines_here") rfl (vis_of v_Lbeside__law_lines_here) d__law_lines_here e__law_lines_here) pa_nil (stp rfl)) (hdb := d__law_cells) (he := stp rfl) (hpl := anp rfl))) (pg_name (i := 4) ND rfl (loc_of (Or.inl l_Lbeside__law_other)))
 (pss_cons (ps_set (i := 5) ND rfl (loc_of (Or.inl l_Lbeside__law_down)) (pe_op op_sub (pe_op op_fdiv (pe_var (i := 4) (x := "_law_other") rfl (vis_of v_Lbeside__law_other) d__law_other e__law_other) (pe_var (i := 2) (x := "_law_wide") rfl (vis_of v_Lbeside__law_wide) d__law_wide e__law_wide)) (pe_op op_fdiv (pe_var (i := 1) (x := "_law_cell") rfl (vis_of v_Lbeside__law_cell) d__law_cell e__law_cell) (pe_var (i := 2) (x := "_law_wide") rfl (vis_of v_Lbeside__law_wide) d__law_wide e__law_wide))))
 (pss_cons (ps_set (i := 6) ND rfl (loc_of (Or.inl l_Lbeside__law_across)) (pe_op op_sub (pe_op op_mod (pe_var (i := 4) (x := "_law_other") rfl (vis_of v_Lbeside__law_other) d__law_other e__law_other) (pe_var (i := 2) (x := "_law_wide") rfl (vis_of v_Lbeside__law_wide) d__law_wide e__law_wide)) (pe_op op_mod (pe_var (i := 1) (x := "_law_cell") rfl (vis_of v_Lbeside__law_cell) d__law_cell e__law_cell) (pe_var (i := 2) (x := "_law_wide") rfl (vis_of v_Lbeside__law_wide) d__law_wide e__law_wide))))
 (pss_one (ps_if (pt_cmpR op_eq (pe_op op_add (pe_op op_mul (pe_var (i := 5) (x := "_law_down") rfl (vis_of v_Lbeside__law_down) d__law_down e__law_down) (pe_var (i := 5) (x := "_law_down") rfl (vis_of v_Lbeside__law_down) d__law_down e__law_down)) (pe_op op_mul (pe_var (i := 6) (x := "_law_across") rfl (vis_of v_Lbeside__law_across) d__law_across e__law_across) (pe_var (i := 6) (x := "_law_across") rfl (vis_of v_Lbeside__law_across) d__law_across e__law_across))) pe_int (nomark _))
 (pss_one (ps_expr (pe_bm PySem.F.plainAttrs_list PySem.F.slot_list_append PySem.F.type_list_append mt_append (pe_var (i := 3) (x := "_law_found") rfl (vis_of v_Lbeside__law_found) d__law_found e__law_found) (pa_cons (pe_var (i := 4) (x := "_law_other") rfl (vis_of v_Lbeside__law_other) d__law_other e__law_other) pa_nil (stp rfl)))))
 pss_nil)))))
 (pss_one (ps_ret (pe_var (i := 3) (x := "_law_found") rfl (vis_of v_Lbeside__law_found) d__law_found e__law_found)))))), ?_⟩
    have w0 := g.w0
    have w1 := g.w1
    have h0 := g.h0
    have l100 := len100 g
    have e0 : atI ((linesOf w h sg).map V.str) 0 = some (V.str (lineOf w sg 0)) := atI_nat (j := 0) (by rw [List.getElem?_map, lines_get (by omega)]; rfl)
    have eL := line_len g (show 0 < h by omega)
    have clen : (cellsOf sg).length ≤ 100 := by
      unfold cellsOf places
      refine Nat.le_trans (List.length_filter_le _ _) ?_
      rw [List.length_map, List.length_range]; omega
    walk_at "RD"
    refine ⟨_, SqL.of hL, _, e0, _, rfl, by rw [eL]; omega, Nat.zero_le _, fun f nf => ⟨l, w, h, sg, rfl, same_new nf _ _ hL, g, fun r H1 nr s1 hr => ⟨_, rfl, ⟨_, SqL.of hr⟩, ?_⟩⟩⟩
    rw [eL]
    have sf : Same H (upd H f (HO.lst [])) := same_new nf
    refine for_list (K := K) (a := r) (xs := (cellsOf sg).map V.int) (fun i σ H' => ∃ x y z, Same H H' ∧ H' r = some (.lst ((cellsOf sg).map V.int)) ∧ H' f = some (.lst ((((cellsOf sg).take i).filter fun o => decide ((o / w - c / w) * (o / w - c / w) + (o % w - c % w) * (o % w - c % w) = 1)).map V.int)) ∧ σ = [some (V.ref l), some (V.int c), some (V.int (w : Int)), some (V.ref f), x, y, z])
      ⟨none, none, none, sf.trans s1, hr, s1 _ _ upd_same, rfl⟩ (fun i σ H' _ ⟨_, _, _, _, hr', _, _⟩ => SqL.of hr') ?_ ?_
    · rintro i y σ H' hi ⟨x0, y0, z0, sm, hr', hf', rfl⟩
      rw [List.getElem?_map] at hi
      obtain ⟨o, ho, rfl⟩ := Option.map_eq_some_iff.mp hi
      have ho' := mem_cells.mp (List.mem_of_getElem? ho)
      have o0 : 0 ≤ o ∧ o < sg.length := by
        unfold hasI at ho'
        simp only [Bool.and_eq_true, decide_eq_true_eq] at ho'
        exact ho'.1
      walk_at "RD"
      obtain ⟨a1, a2, a3, a4, _⟩ := sign_eq g o0.1 o0.2
      obtain ⟨b1, b2, b3, b4, _⟩ := sign_eq g c0 c1
      have h1 := g.h1
      have nrf : r ≠ f := fun z => by
        rw [z, upd_same] at nr
        cases nr
      have tk : (cellsOf sg).take (i + 1) = (cellsOf sg).take i ++ [o] := by rw [List.take_add_one, ho]; rfl
      refine ⟨⟨by omega, by omega⟩, ⟨by omega, by omega⟩, by omega, by omega, .inl ⟨by omega, by omega⟩, .inl ⟨by omega, by omega⟩, ?_⟩
      split
      · rename_i hc
        refine ⟨.inl ⟨rfl, _, SqL.of hf'⟩, _, hf', ?_, same_upd sm nf, ?_, ?_, _, rfl⟩
        · rw [List.length_map]
          refine Nat.lt_of_le_of_lt (List.length_filter_le _ _) ?_
          rw [List.length_take]; omega
        · rw [upd_ne nrf]; exact hr'
        · rw [upd_same, tk, List.filter_append, List.map_append, List.filter_cons, if_pos (decide_eq_true hc)]
          rfl
      · rename_i hc
        refine ⟨sm, hr', ?_, _, rfl⟩
        rw [hf', tk, List.filter_append, List.filter_cons, if_neg (by rw [decide_eq_true_eq]; exact hc)]
        simp
    · rintro σ H' ⟨x0, y0, z0, sm, hr', hf', rfl⟩
      walk_at "RD"
      refine hq f H' nf sm ?_
      rw [hf', List.length_map, List.take_length]
      rfl
theorem sc_Lsame : FnScope ["_law_found", "_law_due"] ["_law_found", "_law_due"] (defScope s_Lsame) := ⟨rfl, rfl, rfl, by decide +kernel, rfl, by decide +kernel, by decide +kernel⟩
set_option maxHeartbeats 4000000 in
theorem ok_Lsame {fd : FuncData} (F : Fun K "_law_same" "_law_same" s_Lsame ad.Lsame fd) (T : Txt K mg ad) {fd_Lwhole : FuncData} (G_Lwhole : FnOk P w K mg base CX0 1 ad.Lwhole fd_Lwhole ["_law_thing"] (spWhole K)) (B_Lwhole : Binds K fd_Lwhole ["_law_thing"] []) : FnOk P w K mg base CX0 2 ad.Lsame fd ["_law_found", "_law_due"] (spSame) := by
  refine F.ok sc_Lsame (fun vs H Q E h => ?_) (fun cdv A outer s H vs Q E HR h => ?_)
  · obtain ⟨a, b, xs, rfl, _⟩ := h
    rfl
  · obtain ⟨a, b, xs, rfl, ha, hb, hx, hq⟩ := h
    have ND := sc_Lsame.nd
    have HU0 := HR.units0
    have HU := HR.units
    have hA := HR.hd
    have hz : (100000 : Nat) ≤ sizeLine := by rw [sizeLine_eq]; decide
    refine ⟨_, (pss_cons (ps_if (PW.pt (pw_or (pt_not (pt_val (pe_callB call_isinst (gl_of g_Lsame_isinstance) T.b_isinstance PyProof.Rows.Boot.«isinstance» (pa_cons (pe_var (i := 0) (x := "_law_found") rfl (vis_of v_Lsame__law_found) d__law_found e__law_found) (pa_cons (pe_bltn (v := .ty "list") (gl_of g_Lsame_list) T.b_list PyProof.Rows.Boot.«list» rfl (hn := n_list) (hd := d_list)) pa_nil (stp rfl)) (stp rfl)) (hn := n_isinstance) (hdb := d_isinstance) (he := stp rfl) (hpl := anp rfl)))) (pw_or1 (pt_cmpR (op_neD HU) (pe_var (i := 0) (x := "_law_found") rfl (vis_of v_Lsame__law_found) d__law_found e__law_found) (pe_var (i := 1) (x := "_law_due") rfl (vis_of v_Lsame__law_due) d__law_due e__law_due) (nomark _)))))
 (pss_one (ps_ret pe_bl))
 pss_nil)
 (pss_one (ps_ret (pe_cmpR (op_eqD HU) (pe_comp (CompScope.of (osc := defScope s_Lsame) (tn := ["_law_one"]) (cn := []) (caps := []) rfl rfl (by decide +kernel) (by decide +kernel) (by decide +kernel) (by decide +kernel) rfl) rfl  (pi_list (pe_var (i := 0) (x := "_law_found") rfl (vis_of v_Lsame__law_found) d__law_found e__law_found))
 (fun _ _ _ _ _ => (pg_name (i := 0) (show (["_law_one"] : List Str).Nodup by decide +kernel) rfl (Or.inl rfl))) (fun _ _ _ _ _ => (pts_one (pt_not (pt_val (pe_call G_Lwhole (HR.mono (by decide)) (by rfl) T.mg_Lwhole T.k_Lwhole B_Lwhole .nil pass0 (pa_cons (pv 0) pa_nil (stp rfl)) (hdb := d__law_whole) (he := stp rfl) (hpl := anp rfl)))))) (fun _ _ _ _ _ => (pv 0))) (pe_lst pa_nil) (nomark _))))), ?_⟩
    have hs := shaped_ints xs
    walk_at "RD"
    refine ⟨_, .lst ha, true, rfl, ?_⟩
    rw [if_neg (by decide)]
    refine ⟨_, den_ints (SqL.of ha), _, den_ints (SqL.of hb), hs, hs, ?_⟩
    rw [eqv_self _ (SeqAt.canLay_of_shaped hs), if_neg (by decide)]
    refine ⟨⟨_, SqL.of ha⟩, comp_pure (src_list (SqL.of ha)) (fun _ => false) (fun v => v) (fun y hy Q h => ?_) (fun y hy z Q h => by cases z) (by rw [List.length_map]; omega) ?_⟩
    · obtain ⟨z, _, rfl⟩ := List.mem_map.mp hy
      walk_at "RD"
      exact ⟨_, rfl, ⟨_, .int _⟩, _, rfl, h⟩
    · intro D hD
      have e : (((xs.map V.int).filter fun _ => false).map fun v => v) = ([] : List Int).map V.int := by
        rw [List.filter_eq_nil_iff.mpr (fun _ _ => by decide)]
        rfl
      rw [e]
      refine ⟨Nat.zero_le _, fun p hp => ?_⟩
      have n : D ≠ p := fun z => by rw [← z, upd_same] at hp; cases hp
      refine ⟨_, den_ints (ns := []) (SqL.of (by rw [upd_ne n]; exact upd_same)), _, .lst (SqL.of upd_same) .nil, rfl, rfl, hq _ ((same_new hD).trans (same_new hp))⟩
theorem sc_Lfields : FnScope ["_law_floor", "_law_lines_here", "_law_kept"] ["_law_floor", "_law_lines_here", "_law_kept"] (defScope s_Lfields) := ⟨rfl, rfl, rfl, by decide +kernel, rfl, by decide +kernel, by decide +kernel⟩
set_option maxHeartbeats 4000000 in
theorem ok_Lfields {fd : FuncData} (F : Fun K "_law_fields" "_law_fields" s_Lfields ad.Lfields fd) (T : Txt K mg ad) {fd_Lwhole : FuncData} (G_Lwhole : FnOk P w K mg base CX0 1 ad.Lwhole fd_Lwhole ["_law_thing"] (spWhole K)) (B_Lwhole : Binds K fd_Lwhole ["_law_thing"] []) : FnOk P w K mg base CX0 2 ad.Lfields fd ["_law_floor", "_law_lines_here", "_law_kept"] (spAsk ad.C_Floor) := by
  refine F.ok sc_Lfields (fun vs H Q E h => ?_) (fun cdv A outer s H vs Q E HR h => ?_)
  · obtain ⟨p, ls, k, w, h, sg, n, rfl, _⟩ := h
    rfl
  · obtain ⟨p, ls, k, w, h, sg, n, rfl, F0, hL, g, hK, hn, hq⟩ := h
    have ND := sc_Lfields.nd
    have HU0 := HR.units0
    have HU := HR.units
    have hA := HR.hd
    have hz : (100000 : Nat) ≤ sizeLine := by rw [sizeLine_eq]; decide
    refine ⟨_, (pss_cons (ps_if (PW.pt (pw_or (pt_not (pt_val (pe_call G_Lwhole (HR.mono (by decide)) (gl_of g_Lfields__law_whole) T.mg_Lwhole T.k_Lwhole B_Lwhole .nil pass0 (pa_cons (pe_fld (pe_var (i := 0) (x := "_law_floor") rfl (vis_of v_Lfields__law_floor) d__law_floor e__law_floor) (by rfl)) pa_nil (stp rfl)) (hdb := d__law_whole) (he := stp rfl) (hpl := anp rfl)))) (pw_or (pt_not (pt_val (pe_call G_Lwhole (HR.mono (by decide)) (gl_of g_Lfields__law_whole) T.mg_Lwhole T.k_Lwhole B_Lwhole .nil pass0 (pa_cons (pe_fld (pe_var (i := 0) (x := "_law_floor") rfl (vis_of v_Lfields__law_floor) d__law_floor e__law_floor) (by rfl)) pa_nil (stp rfl)) (hdb := d__law_whole) (he := stp rfl) (hpl := anp rfl)))) (pw_or1 (pt_not (pt_val (pe_callB call_isinst (gl_of g_Lfields_isinstance) T.b_isinstance PyProof.Rows.Boot.«isinstance» (pa_cons (pe_fld (pe_var (i := 0) (x := "_law_floor") rfl (vis_of v_Lfields__law_floor) d__law_floor e__law_floor) (by rfl)) (pa_cons (pe_bltn (v := .ty "list") (gl_of g_Lfields_list) T.b_list PyProof.Rows.Boot.«list» rfl (hn := n_list) (hd := d_list)) pa_nil (stp rfl)) (stp rfl)) (hn := n_isinstance) (hdb := d_isinstance) (he := stp rfl) (hpl := anp rfl))))))))
 (pss_one (ps_ret pe_bl))
 pss_nil)
 (pss_one (ps_ret (pe_and (pe_cmpR (op_eqD HU) (pe_tup (pa_cons (pe_fld (pe_var (i := 0) (x := "_law_floor") rfl (vis_of v_Lfields__law_floor) d__law_floor e__law_floor) (by rfl)) (pa_cons (pe_fld (pe_var (i := 0) (x := "_law_floor") rfl (vis_of v_Lfields__law_floor) d__law_floor e__law_floor) (by rfl)) pa_nil (stp rfl)) (stp rfl))) (pe_tup (pa_cons (pe_callB call_len_str (gl_of g_Lfields_len) T.b_len PyProof.Rows.Boot.«len» (pa_cons (pe_ix ix_list (pe_var (i := 1) (x := "_law_lines_here") rfl (vis_of v_Lfields__law_lines_here) d__law_lines_here e__law_lines_here) pe_int (fun _ _ => rfl)) pa_nil (stp rfl)) (hn := n_len) (hdb := d_len) (he := stp rfl) (hpl := anp rfl)) (pa_cons (pe_callB call_len_seq (gl_of g_Lfields_len) T.b_len PyProof.Rows.Boot.«len» (pa_cons (pe_var (i := 1) (x := "_law_lines_here") rfl (vis_of v_Lfields__law_lines_here) d__law_lines_here e__law_lines_here) pa_nil (stp rfl)) (hn := n_len) (hdb := d_len) (he := stp rfl) (hpl := anp rfl)) pa_nil (stp rfl)) (stp rfl))) (nomark _)) (pe_one (pe_cmpR (op_eqD HU) (pe_fld (pe_var (i := 0) (x := "_law_floor") rfl (vis_of v_Lfields__law_floor) d__law_floor e__law_floor) (by rfl)) (pe_var (i := 1) (x := "_law_lines_here") rfl (vis_of v_Lfields__law_lines_here) d__law_lines_here e__law_lines_here) (nomark _))))))), ?_⟩
    have w0 := g.w0
    have w1 := g.w1
    have h0 := g.h0
    have h1 := g.h1
    have l100 := len100 g
    have e0 : atI ((linesOf w h sg).map V.str) 0 = some (V.str (lineOf w sg 0)) := atI_nat (j := 0) (by rw [List.getElem?_map, lines_get (by omega)]; rfl)
    have eL := line_len g (show 0 < h by omega)
    obtain ⟨dx, l, f1, f2⟩ := F0.ob
    refine tSeq_cut (fun σ H' => H' = H ∧ σ = [some (V.ref p), some (V.ref ls), some (V.ref k)]) (fun nx hk => ?_) ?_
    · walk_at "RD"
      refine ⟨_, _, _, f1, T.cl_Floor, T.n_Floor_wide, _, f_wide _ _ _ _, _, rfl, ⟨_, .int _⟩, _, rfl, ?_⟩
      rw [if_neg (by simp [isI])]
      refine ⟨_, _, _, f1, T.cl_Floor, T.n_Floor_high, _, f_high _ _ _ _, _, rfl, ⟨_, .int _⟩, _, rfl, ?_⟩
      rw [if_neg (by simp [isI])]
      refine ⟨_, _, _, f1, T.cl_Floor, T.n_Floor_lines, _, f_lines _ _ _ _, _, .lst f2, true, rfl, ?_⟩
      rw [if_neg (by decide)]
      exact hk _ _ ⟨rfl, rfl⟩
    rintro σ H1 ⟨rfl, rfl⟩
    walk_at "RD"
    refine ⟨_, _, _, f1, T.cl_Floor, T.n_Floor_wide, _, f_wide _ _ _ _, _, _, _, f1, T.cl_Floor, T.n_Floor_high, _, f_high _ _ _ _, by omega, fun p1 n1 => ?_⟩
    have s1 := same_new (o := HO.tup [V.int (w : Int), V.int (h : Int)]) n1
    refine ⟨_, SqL.of (s1 _ _ hL), _, e0, _, rfl, by rw [eL]; omega, _, .inl (SqL.of (s1 _ _ hL)), by omega, fun p2 n2 => ?_⟩
    rw [eL, List.length_map, lines_len]
    have s2 := same_new (o := HO.tup [V.int (w : Int), V.int (h : Int)]) n2
    refine ⟨_, .tup (SqT.of (s2 _ _ upd_same)) (.cons (.int _) (.cons (.int _) .nil)), _, .tup (SqT.of upd_same) (.cons (.int _) (.cons (.int _) .nil)), rfl, rfl, ?_⟩
    rw [if_pos (by simp [PyData.eqv, PyData.eqvAll])]
    have s3 := s1.trans s2
    have hs : SeqAt.shaped (.list ((linesOf w h sg).map PyData.str)) = true := shaped_strs _ (fun x hx => by
      obtain ⟨j, _, rfl⟩ := List.mem_map.mp hx
      refine strOk_of fun c hc => ?_
      rcases line_ok g c hc with z | z | z | z | z <;> omega)
    refine ⟨_, _, _, s3 _ _ f1, T.cl_Floor, T.n_Floor_lines, _, f_lines _ _ _ _, _, .lst (SqL.of (s3 _ _ f2)) (denAll_strs _), _, .lst (SqL.of (s3 _ _ hL)) (denAll_strs _), hs, hs, ?_⟩
    rw [eqv_self _ (SeqAt.canLay_of_shaped hs)]
    exact hq _ (Same.b s3 k) ((hK.same s3).mono (by omega))
theorem sc_Llists : FnScope ["_law_floor", "_law_lines_here", "_law_kept", "_law_told", "_law_cells_here", "_law_one"] ["_law_floor", "_law_lines_here", "_law_kept"] (defScope s_Llists) := ⟨rfl, rfl, rfl, by decide +kernel, rfl, by decide +kernel, by decide +kernel⟩
set_option maxHeartbeats 4000000 in
theorem ok_Llists {fd : FuncData} (F : Fun K "_law_lists" "_law_lists" s_Llists ad.Llists fd) (T : Txt K mg ad) {fd_Floor_cells : FuncData} (G_Floor_cells : FnOk P w K mg base CX0 4 ad.Floor_cells fd_Floor_cells ["self"] (spCells ad.C_Floor)) (B_Floor_cells : Binds K fd_Floor_cells ["self"] []) {fd_Floor_chargers : FuncData} (G_Floor_chargers : FnOk P w K mg base CX0 1 ad.Floor_chargers fd_Floor_chargers ["self"] (spChargers ad.C_Floor)) (B_Floor_chargers : Binds K fd_Floor_chargers ["self"] []) {fd_Lcells : FuncData} (G_Lcells : FnOk P w K mg base CX0 2 ad.Lcells fd_Lcells ["_law_lines_here"] (spLCells)) (B_Lcells : Binds K fd_Lcells ["_law_lines_here"] []) {fd_Lsame : FuncData} (G_Lsame : FnOk P w K mg base CX0 2 ad.Lsame fd_Lsame ["_law_found", "_law_due"] (spSame)) (B_Lsame : Binds K fd_Lsame ["_law_found", "_law_due"] []) {fd_Lsign : FuncData} (G_Lsign : FnOk P w K mg base CX0 1 ad.Lsign fd_Lsign ["_law_lines_here", "_law_cell"] (spLSign)) (B_Lsign : Binds K fd_Lsign ["_law_lines_here", "_law_cell"] []) : FnOk P w K mg base CX0 5 ad.Llists fd ["_law_floor", "_law_lines_here", "_law_kept"] (spAsk ad.C_Floor) := by
  refine F.ok sc_Llists (fun vs H Q E h => ?_) (fun cdv A outer s H vs Q E HR h => ?_)
  · obtain ⟨p, ls, k, w, h, sg, n, rfl, _⟩ := h
    rfl
  · obtain ⟨p, ls, k, w, h, sg, n, rfl, F0, hL, g, hK, hn, hq⟩ := h
    have ND := sc_Llists.nd
    have HU0 := HR.units0
    have HU := HR.units
    have hA := HR.hd
    have hz : (100000 : Nat) ≤ sizeLine := by rw [sizeLine_eq]; decide
    refine ⟨_, (pss_cons (ps_set (i := 3) ND rfl (loc_of (Or.inl l_Llists__law_told)) (pe_lst (pa_cons (pe_meth0 (pe_var (i := 0) (x := "_law_floor") rfl (vis_of v_Llists__law_floor) d__law_floor e__law_floor) T.cl_Floor T.m_Floor_cells G_Floor_cells (HR.mono (by decide)) B_Floor_cells .nil pass0) (pa_cons (pe_meth0 (pe_var (i := 0) (x := "_law_floor") rfl (vis_of v_Llists__law_floor) d__law_floor e__law_floor) T.cl_Floor T.m_Floor_chargers G_Floor_chargers (HR.mono (by decide)) B_Floor_chargers .nil pass0) pa_nil (stp rfl)) (stp rfl))))
 (pss_cons (ps_set (i := 4) ND rfl (loc_of (Or.inl l_Llists__law_cells_here)) (pe_call G_Lcells (HR.mono (by decide)) (gl_of g_Llists__law_cells) T.mg_Lcells T.k_Lcells B_Lcells .nil pass0 (pa_cons (pe_var (i := 1) (x := "_law_lines_here") rfl (vis_of v_Llists__law_lines_here) d__law_lines_here e__law_lines_here) pa_nil (stp rfl)) (hdb := d__law_cells) (he := stp rfl) (hpl := anp rfl)))
 (pss_cons (ps_if (pt_not (pt_val (pe_call G_Lsame (HR.mono (by decide)) (gl_of g_Llists__law_same) T.mg_Lsame T.k_Lsame B_Lsame .nil pass0 (pa_cons (pe_ix ix_list (pe_var (i := 3) (x := "_law_told") rfl (vis_of v_Llists__law_told) d__law_told e__law_told) pe_int (fun _ _ => rfl)) (pa_cons (pe_var (i := 4) (x := "_law_cells_here") rfl (vis_of v_Llists__law_cells_here) d__law_cells_here e__law_cells_here) pa_nil (stp rfl)) (stp rfl)) (hdb := d__law_same) (he := stp rfl) (hpl := anp rfl))))
 (pss_one (ps_ret pe_bl))
 pss_nil)
 (pss_cons (ps_if (pt_not (pt_val (pe_call G_Lsame (HR.mono (by decide)) (gl_of g_Llists__law_same) T.mg_Lsame T.k_Lsame B_Lsame .nil pass0 (pa_cons (pe_ix ix_list (pe_var (i := 3) (x := "_law_told") rfl (vis_of v_Llists__law_told) d__law_told e__law_told) pe_int (fun _ _ => rfl)) (pa_cons (pe_comp (CompScope.of (osc := defScope s_Llists) (tn := ["_law_cell"]) (cn := ["_law_lines_here"]) (caps := [1]) rfl rfl (by decide +kernel) (by decide +kernel) (by decide +kernel) (by decide +kernel) rfl) rfl  (pi_list (pe_var (i := 4) (x := "_law_cells_here") rfl (vis_of v_Llists__law_cells_here) d__law_cells_here e__law_cells_here))
 (fun _ _ _ _ _ => (pg_name (i := 0) (show (["_law_cell", "_law_lines_here"] : List Str).Nodup by decide +kernel) rfl (Or.inl rfl))) (fun _ _ _ _ _ => (pts_one (pt_cmpR op_eq (pe_call G_Lsign (HR.mono (by decide)) (by rfl) T.mg_Lsign T.k_Lsign B_Lsign .nil pass0 (pa_cons (pv 1) (pa_cons (pv 0) pa_nil (stp rfl)) (stp rfl)) (hdb := d__law_sign) (he := stp rfl) (hpl := anp rfl)) pe_str (nomark _)))) (fun _ _ _ _ _ => (pv 0))) pa_nil (stp rfl)) (stp rfl)) (hdb := d__law_same) (he := stp rfl) (hpl := anp rfl))))
 (pss_one (ps_ret pe_bl))
 pss_nil)
 (pss_cons (ps_for PassesOwn.never rfl (pi_list (pe_var (i := 3) (x := "_law_told") rfl (vis_of v_Llists__law_told) d__law_told e__law_told)) (pg_name (i := 5) ND rfl (loc_of (Or.inl l_Llists__law_one)))
 (pss_cons (ps_expr (pe_bm PySem.F.plainAttrs_list PySem.F.slot_list_append PySem.F.type_list_append mt_append (pe_var (i := 5) (x := "_law_one") rfl (vis_of v_Llists__law_one) d__law_one e__law_one) (pa_cons (pe_callB call_len_seq (gl_of g_Llists_len) T.b_len PyProof.Rows.Boot.«len» (pa_cons (pe_var (i := 2) (x := "_law_kept") rfl (vis_of v_Llists__law_kept) d__law_kept e__law_kept) pa_nil (stp rfl)) (hn := n_len) (hdb := d_len) (he := stp rfl) (hpl := anp rfl)) pa_nil (stp rfl))))
 (pss_one (ps_expr (pe_bm PySem.F.plainAttrs_list PySem.F.slot_list_append PySem.F.type_list_append mt_append (pe_var (i := 2) (x := "_law_kept") rfl (vis_of v_Llists__law_kept) d__law_kept e__law_kept) (pa_cons (pe_tup (pa_cons (pe_var (i := 5) (x := "_law_one") rfl (vis_of v_Llists__law_one) d__law_one e__law_one) (pa_cons (pe_callTy call_list_of (gl_of g_Llists_list) T.b_list PyProof.Rows.Boot.«list» (pa_cons (pe_var (i := 5) (x := "_law_one") rfl (vis_of v_Llists__law_one) d__law_one e__law_one) pa_nil (stp rfl)) (hn := n_list) (hdb := d_list) (he := stp rfl) (hpl := anp rfl)) pa_nil (stp rfl)) (stp rfl))) pa_nil (stp rfl)))))))
 (pss_one (ps_ret pe_bl))))))), ?_⟩
    have w0 := g.w0
    have w1 := g.w1
    have h0 := g.h0
    have h1 := g.h1
    have l100 := len100 g
    have e0 : atI ((linesOf w h sg).map V.str) 0 = some (V.str (lineOf w sg 0)) := atI_nat (j := 0) (by rw [List.getElem?_map, lines_get (by omega)]; rfl)
    have eL := line_len g (show 0 < h by omega)
    obtain ⟨dx, l, f1, f2⟩ := F0.ob
    have nocells : (flds w h l sg).lookup ("cells" : Str) = none := f_no _ _ _ _ (by decide +kernel) (by decide +kernel) (by decide +kernel) (by decide +kernel)
    have nochg : (flds w h l sg).lookup ("chargers" : Str) = none := f_no _ _ _ _ (by decide +kernel) (by decide +kernel) (by decide +kernel) (by decide +kernel)
    have cl := cells_len g
    have ch := chargers_len g
    refine tSeq_cut (fun σ H' => ∃ t a b, H a = none ∧ H b = none ∧ H t = none ∧ a ≠ b ∧ a ≠ t ∧ b ≠ t ∧ Same H H' ∧ H' t = some (.lst [V.ref a, V.ref b]) ∧ H' a = some (.lst ((cellsOf sg).map V.int)) ∧ H' b = some (.lst ((chargersOf sg).map V.int)) ∧ σ = [some (V.ref p), some (V.ref ls), some (V.ref k), some (V.ref t), none, none]) (fun nx hk => ?_) ?_
    · walk_at "RD"
      refine ⟨_, _, f1, nocells, p, w, h, sg, rfl, F0, g, fun a H1 na s1 ha => ⟨_, _, s1 _ _ f1, nochg, p, w, h, sg, rfl, F0.same s1, g, fun b H2 nb s2 hb => ⟨by omega, fun t nt => ?_⟩⟩⟩
      have hab : a ≠ b := ne_of_none ha nb
      have s3 := same_new (o := HO.lst [V.ref a, V.ref b]) nt
      have ha2 := s2 _ _ ha
      exact hk _ _ ⟨t, a, b, na, s1.free nb, (s1.trans s2).free nt, hab, ne_of_none ha2 nt, ne_of_none hb nt, (s1.trans s2).trans s3, upd_same, s3 _ _ ha2, s3 _ _ hb, rfl⟩
    rintro σ H1 ⟨t, a, b, na, nb, nt, nab, nat, nbt, s1, ht, ha, hb, rfl⟩
    refine tSeq_cut (fun σ H' => ∃ c, Same H1 H' ∧ H' c = some (.lst ((cellsOf sg).map V.int)) ∧ σ = [some (V.ref p), some (V.ref ls), some (V.ref k), some (V.ref t), some (V.ref c), none]) (fun nx hk => ?_) ?_
    · walk_at "RD"
      exact ⟨ls, w, h, sg, rfl, s1 _ _ hL, g, fun c H2 nc s2 hc => hk _ _ ⟨c, s2, hc, rfl⟩⟩
    rintro σ H2 ⟨c, s2, hc, rfl⟩
    refine tSeq_cut (fun σ H' => Same H2 H' ∧ σ = [some (V.ref p), some (V.ref ls), some (V.ref k), some (V.ref t), some (V.ref c), none]) (fun nx hk => ?_) ?_
    · walk_at "RD"
      refine ⟨_, SqL.of (s2 _ _ ht), _, rfl, a, c, _, rfl, s2 _ _ ha, hc, by omega, fun H3 s3 => ⟨_, rfl, ?_⟩⟩
      rw [if_neg (by decide)]
      exact hk _ _ ⟨s3, rfl⟩
    rintro σ H3 ⟨s3, rfl⟩
    have hc3 := s3 _ _ hc
    have hL3 : LinesAt H3 ls w h sg := s3 _ _ (s2 _ _ (s1 _ _ hL))
    refine tSeq_cut (fun σ H' => Same H3 H' ∧ σ = [some (V.ref p), some (V.ref ls), some (V.ref k), some (V.ref t), some (V.ref c), none]) (fun nx hk => ?_) ?_
    · walk_at "RD"
      refine ⟨_, SqL.of (s3 _ _ (s2 _ _ ht)), _, rfl, ⟨_, SqL.of hc3⟩, comp_pure (src_list (SqL.of hc3)) (isCh sg) (fun v => v) (fun y hy Q hh => ?_) (fun y hy _ Q hh => ?_) (by rw [List.length_map]; omega) ?_⟩
      · obtain ⟨o, ho, rfl⟩ := List.mem_map.mp hy
        have ho' := mem_cells.mp ho
        have o0 : 0 ≤ o ∧ o < sg.length := by
          unfold hasI at ho'
          simp only [Bool.and_eq_true, decide_eq_true_eq] at ho'
          exact ho'.1
        walk_at "RD"
        refine ⟨ls, w, h, sg, _, rfl, hL3, g, o0.1, o0.2, rfl, ?_⟩
        have e : isCh sg (V.int o) = decide (chr1 (at_ sg o) = V.str (Str.ofString "+")) := decide_eq_decide.mpr ⟨fun z => congrArg V.str ((plus_eq _).mpr z), fun z => (plus_eq _).mp (V.str.inj z)⟩
        rw [e] at hh
        exact hh
      · walk_at "RD"
        exact hh
      · intro D hD
        have e : ((((cellsOf sg).map V.int).filter (isCh sg)).map fun v => v) = (chargersOf sg).map V.int := by
          rw [List.map_id', chargers_eq, List.filter_map]
          rfl
        rw [e]
        have sD := same_new (o := HO.lst ((chargersOf sg).map V.int)) hD
        refine ⟨b, D, _, rfl, sD _ _ (s3 _ _ (s2 _ _ hb)), upd_same, by omega, fun H4 s4 => ⟨_, rfl, ?_⟩⟩
        rw [if_neg (by decide)]
        exact hk _ _ ⟨sD.trans s4, rfl⟩
    rintro σ H4 ⟨s4, rfl⟩
    have s14 := (s2.trans s3).trans s4
    have ht4 := s14 _ _ ht
    have ha4 := s14 _ _ ha
    have hb4 := s14 _ _ hb
    have s04 := s1.trans s14
    have hK4 := hK.same s04
    obtain ⟨ts0, _, hk0, _⟩ := id hK
    have nak : a ≠ k := fun z => by rw [z, hk0] at na; cases na
    have nbk : b ≠ k := fun z => by rw [z, hk0] at nb; cases nb
    have ntk : t ≠ k := fun z => by rw [z, hk0] at nt; cases nt
    refine tSeq_cut (fun σ H' => ∃ y, SameB k H H' ∧ KeptOk H' k (n + 2) ∧ σ = [some (V.ref p), some (V.ref ls), some (V.ref k), some (V.ref t), some (V.ref c), y]) (fun nx hk => ?_) ?_
    · walk_at "RD"
      have Na := kept_no hK na s04
      have Nb := kept_no hK nb s04
      refine ⟨⟨_, SqL.of ht4⟩, for_list (K := K) (a := t) (xs := [V.ref a, V.ref b]) (fun i σ H' => ∃ y, SameB k H H' ∧ KeptOk H' k (n + i) ∧ H' t = some (.lst [V.ref a, V.ref b]) ∧ (i = 0 → H' = H4) ∧ (i = 1 → H' b = some (.lst ((chargersOf sg).map V.int)) ∧ KeptNo H' k b) ∧ σ = [some (V.ref p), some (V.ref ls), some (V.ref k), some (V.ref t), some (V.ref c), y])
        ⟨none, Same.b s04 k, hK4, ht4, fun _ => rfl, fun z => (by cases z), rfl⟩ (fun i σ H' _ ⟨_, _, _, h, _⟩ => SqL.of h) ?_ ?_⟩
      · rintro i y σ H' hi ⟨y0, sB, hK', ht', hi0, hi1, rfl⟩
        -- the list at hand
        obtain ⟨x, xs, rfl, hx, hN, nxk, hxl, nx0, nxt, hxa⟩ : ∃ (x : Addr) (xs : List Int), y = V.ref x ∧ H' x = some (.lst (xs.map V.int)) ∧ KeptNo H' k x ∧ x ≠ k ∧ xs.length ≤ 100 ∧ H x = none ∧ x ≠ t ∧ (i = 0 → x = a) := by
          match i, hi with
          | 0, hi =>
            cases hi
            rw [hi0 rfl]
            exact ⟨a, _, rfl, ha4, Na, nak, cl, na, nat, fun _ => rfl⟩
          | 1, hi =>
            cases hi
            obtain ⟨q1, q2⟩ := hi1 rfl
            exact ⟨b, _, rfl, q1, q2, nbk, ch, nb, nbt, fun z => (by cases z)⟩
        obtain ⟨ts', _, hk', _⟩ := id hK'
        walk_at "RD"
        refine ⟨.inl ⟨rfl, _, SqL.of hx⟩, _, .inl (SqL.of hk'), _, hx, by rw [List.length_map]; omega, ?_⟩
        refine ⟨.inl ⟨rfl, _, SqL.of (by rw [upd_ne nxk.symm]; exact hk')⟩, _, .inl (SqL.of upd_same), fun cp ncp => ⟨by omega, fun tp ntp => ?_⟩⟩
        have hi2 : i < 2 := (List.getElem?_eq_some_iff.mp hi).1
        obtain ⟨ts, e1, e2, e3, e4, e5⟩ := kept_step hK' hN hx nxk (by omega) ncp ntp
        refine ⟨_, e1, by rw [List.length_map]; omega, fun b' o hb' nb' => e4 b' o (sB b' o hb' nb') nb' (ne_of_none hb' nx0), by rw [← Nat.add_assoc]; exact e3, e4 _ _ ht' ntk nxt.symm, fun z => absurd z (Nat.succ_ne_zero i), fun z => ?_, _, rfl⟩
        have i0 : i = 0 := by omega
        have hb' : H' b = some (.lst ((chargersOf sg).map V.int)) := by rw [hi0 i0]; exact hb4
        have nxb : x ≠ b := by rw [hxa i0]; exact nab
        exact ⟨e4 _ _ hb' nbk nxb.symm, e5 b (by rw [hi0 i0]; exact Nb) nxb (by rw [hb']; simp)⟩
      · rintro σ H' ⟨y, sB, hK', _, _, _, rfl⟩
        exact hk _ _ ⟨y, sB, hK', rfl⟩
    rintro σ H5 ⟨y, s5, hK5, rfl⟩
    walk_at "RD"
    exact hq _ s5 (hK5.mono (by omega))
theorem sc_Lthings : FnScope ["_law_floor", "_law_lines_here", "_law_kept", "_law_most", "_law_cells_here", "_law_thing"] ["_law_floor", "_law_lines_here", "_law_kept"] (defScope s_Lthings) := ⟨rfl, rfl, rfl, by decide +kernel, rfl, by decide +kernel, by decide +kernel⟩
set_option maxHeartbeats 4000000 in
theorem ok_Lthings {fd : FuncData} (F : Fun K "_law_things" "_law_things" s_Lthings ad.Lthings fd) (T : Txt K mg ad) {fd_Lcells : FuncData} (G_Lcells : FnOk P w K mg base CX0 2 ad.Lcells fd_Lcells ["_law_lines_here"] (spLCells)) (B_Lcells : Binds K fd_Lcells ["_law_lines_here"] []) {fd_Floor_has : FuncData} (G_Floor_has : FnOk P w K mg base CX0 3 ad.Floor_has fd_Floor_has ["self", "cell"] (spHas K ad.C_Floor)) (B_Floor_has : Binds K fd_Floor_has ["self", "cell"] []) : FnOk P w K mg base CX0 4 ad.Lthings fd ["_law_floor", "_law_lines_here", "_law_kept"] (spAsk ad.C_Floor) := by
  refine F.ok sc_Lthings (fun vs H Q E h => ?_) (fun cdv A outer s H vs Q E HR h => ?_)
  · obtain ⟨p, ls, k, w, h, sg, n, rfl, _⟩ := h
    rfl
  · obtain ⟨p, ls, k, w, h, sg, n, rfl, F0, hL, g, hK, hn, hq⟩ := h
    have ND := sc_Lthings.nd
    have HU0 := HR.units0
    have HU := HR.units
    have hA := HR.hd
    have hz : (100000 : Nat) ≤ sizeLine := by rw [sizeLine_eq]; decide
    refine ⟨_, (pss_cons (ps_set (i := 3) ND rfl (loc_of (Or.inl l_Lthings__law_most)) (pe_op op_mul (pe_callB call_len_seq (gl_of g_Lthings_len) T.b_len PyProof.Rows.Boot.«len» (pa_cons (pe_var (i := 1) (x := "_law_lines_here") rfl (vis_of v_Lthings__law_lines_here) d__law_lines_here e__law_lines_here) pa_nil (stp rfl)) (hn := n_len) (hdb := d_len) (he := stp rfl) (hpl := anp rfl)) (pe_callB call_len_str (gl_of g_Lthings_len) T.b_len PyProof.Rows.Boot.«len» (pa_cons (pe_ix ix_list (pe_var (i := 1) (x := "_law_lines_here") rfl (vis_of v_Lthings__law_lines_here) d__law_lines_here e__law_lines_here) pe_int (fun _ _ => rfl)) pa_nil (stp rfl)) (hn := n_len) (hdb := d_len) (he := stp rfl) (hpl := anp rfl))))
 (pss_cons (ps_set (i := 4) ND rfl (loc_of (Or.inl l_Lthings__law_cells_here)) (pe_call G_Lcells (HR.mono (by decide)) (gl_of g_Lthings__law_cells) T.mg_Lcells T.k_Lcells B_Lcells .nil pass0 (pa_cons (pe_var (i := 1) (x := "_law_lines_here") rfl (vis_of v_Lthings__law_lines_here) d__law_lines_here e__law_lines_here) pa_nil (stp rfl)) (hdb := d__law_cells) (he := stp rfl) (hpl := anp rfl)))
 (pss_cons (ps_for PassesOwn.never rfl (pi_list (pe_op op_cat (pe_listrange rfl (gl_of g_Lthings_list) T.b_list (gl_of g_Lthings_range) T.b_range (pa_cons (pe_un un_neg pe_int) (pa_cons (pe_op op_add (pe_var (i := 3) (x := "_law_most") rfl (vis_of v_Lthings__law_most) d__law_most e__law_most) pe_int) pa_nil (stp rfl)) (stp rfl)) (st1 rfl) (st2 rfl rfl) (st1 rfl)) (pe_lst (pa_cons (pe_op op_pow pe_int pe_int) (pa_cons (pe_un un_neg (pe_op op_pow pe_int pe_int)) pa_nil (stp rfl)) (stp rfl))))) (pg_name (i := 5) ND rfl (loc_of (Or.inl l_Lthings__law_thing)))
 (pss_one (ps_if (PW.pt (pw_or (pt_not (pt_val (pe_callB call_isinst (gl_of g_Lthings_isinstance) T.b_isinstance PyProof.Rows.Boot.«isinstance» (pa_cons (pe_meth (pe_var (i := 0) (x := "_law_floor") rfl (vis_of v_Lthings__law_floor) d__law_floor e__law_floor) T.cl_Floor T.m_Floor_has G_Floor_has (HR.mono (by decide)) B_Floor_has .nil pass0 (pa_cons (pe_var (i := 5) (x := "_law_thing") rfl (vis_of v_Lthings__law_thing) d__law_thing e__law_thing) pa_nil (stp rfl)) (hst := stp rfl) (hpl := anp rfl)) (pa_cons (pe_bltn (v := .ty "bool") (gl_of g_Lthings_bool) T.b_bool PyProof.Rows.Boot.«bool» rfl (hn := n_bool) (hd := d_bool)) pa_nil (stp rfl)) (stp rfl)) (hn := n_isinstance) (hdb := d_isinstance) (he := stp rfl) (hpl := anp rfl)))) (pw_or1 (pt_cmpR op_ne (pe_meth (pe_var (i := 0) (x := "_law_floor") rfl (vis_of v_Lthings__law_floor) d__law_floor e__law_floor) T.cl_Floor T.m_Floor_has G_Floor_has (HR.mono (by decide)) B_Floor_has .nil pass0 (pa_cons (pe_var (i := 5) (x := "_law_thing") rfl (vis_of v_Lthings__law_thing) d__law_thing e__law_thing) pa_nil (stp rfl)) (hst := stp rfl) (hpl := anp rfl)) (pe_cmpR op_in_seq (pe_var (i := 5) (x := "_law_thing") rfl (vis_of v_Lthings__law_thing) d__law_thing e__law_thing) (pe_var (i := 4) (x := "_law_cells_here") rfl (vis_of v_Lthings__law_cells_here) d__law_cells_here e__law_cells_here) (by with_unfolding_all rfl)) (nomark _)))))
 (pss_one (ps_ret pe_bl))
 pss_nil)))
 (pss_cons (ps_for PassesOwn.never rfl (pi_list (pe_lst (pa_cons pe_bl (pa_cons pe_bl (pa_cons pe_non (pa_cons pe_str (pa_cons pe_str (pa_cons (pe_lst (pa_cons pe_int pa_nil (stp rfl))) (pa_cons (pe_tup (pa_cons pe_int pa_nil (stp rfl))) (pa_cons pe_dnewK pa_nil (stp rfl)) (stp rfl)) (stp rfl)) (stp rfl)) (stp rfl)) (stp rfl)) (stp rfl)) (stp rfl)))) (pg_name (i := 5) ND rfl (loc_of (Or.inl l_Lthings__law_thing)))
 (pss_one (ps_if (pt_cmpR op_isnotB (pe_meth (pe_var (i := 0) (x := "_law_floor") rfl (vis_of v_Lthings__law_floor) d__law_floor e__law_floor) T.cl_Floor T.m_Floor_has G_Floor_has (HR.mono (by decide)) B_Floor_has .nil pass0 (pa_cons (pe_var (i := 5) (x := "_law_thing") rfl (vis_of v_Lthings__law_thing) d__law_thing e__law_thing) pa_nil (stp rfl)) (hst := stp rfl) (hpl := anp rfl)) pe_bl (nomark _))
 (pss_one (ps_ret pe_bl))
 pss_nil)))
 (pss_one (ps_ret pe_bl)))))), ?_⟩
    have w0 := g.w0
    have w1 := g.w1
    have h0 := g.h0
    have h1 := g.h1
    have l100 := len100 g
    have e0 : atI ((linesOf w h sg).map V.str) 0 = some (V.str (lineOf w sg 0)) := atI_nat (j := 0) (by rw [List.getElem?_map, lines_get (by omega)]; rfl)
    have eL := line_len g (show 0 < h by omega)
    obtain ⟨dx, l, f1, f2⟩ := F0.ob
    have nohas : (flds w h l sg).lookup ("has" : Str) = none := f_no _ _ _ _ (by decide +kernel) (by decide +kernel) (by decide +kernel) (by decide +kernel)
    have cl := cells_len g
    have len := g.len
    have em : ((h : Int) * (w : Int)) = ((sg.length : Nat) : Int) := by rw [len, Nat.mul_comm]; simp
    refine tSeq_cut (fun σ H' => H' = H ∧ σ = [some (V.ref p), some (V.ref ls), some (V.ref k), some (V.int (sg.length : Int)), none, none]) (fun nx hk => ?_) ?_
    · walk_at "RD"
      refine ⟨_, .inl (SqL.of hL), _, SqL.of hL, _, e0, _, rfl, by rw [eL]; omega, ?_⟩
      rw [eL, List.length_map, lines_len, em]
      exact ⟨.inl ⟨by omega, by omega⟩, hk _ _ ⟨rfl, rfl⟩⟩
    rintro σ H1 ⟨rfl, rfl⟩
    refine tSeq_cut (fun σ H' => ∃ c, Same H1 H' ∧ H' c = some (.lst ((cellsOf sg).map V.int)) ∧ σ = [some (V.ref p), some (V.ref ls), some (V.ref k), some (V.int (sg.length : Int)), some (V.ref c), none]) (fun nx hk => ?_) ?_
    · walk_at "RD"
      exact ⟨ls, w, h, sg, rfl, hL, g, fun c H2 nc s2 hc => hk _ _ ⟨c, s2, hc, rfl⟩⟩
    rintro σ H2 ⟨c, s2, hc, rfl⟩
    refine tSeq_cut (fun σ H' => ∃ y, Same H2 H' ∧ σ = [some (V.ref p), some (V.ref ls), some (V.ref k), some (V.int (sg.length : Int)), some (V.ref c), y]) (fun nx hk => ?_) ?_
    · walk_at "RD"
      refine ⟨by decide, by decide, by omega, by omega, by omega, fun p1 n1 => ⟨⟨by decide, by decide, by decide⟩, ⟨by decide, by decide, by decide⟩, by omega, fun p2 n2 => ?_⟩⟩
      have n12 : p1 ≠ p2 := fun z => by rw [← z, upd_same] at n2; cases n2
      refine ⟨_, by rw [upd_ne n12]; exact upd_same, _, upd_same, by simp only [List.length_map, List.length_range, List.length_cons, List.length_nil]; omega, fun p3 n3 => ?_⟩
      have ez : (List.map (fun k => V.int (-2 + ((k : Nat) : Int))) (List.range ((sg.length : Int) + 2 - -2).toNat) ++ [V.int (10 ^ Int.toNat 20), V.int (-10 ^ Int.toNat 20)]) = ((List.range ((sg.length : Int) + 2 - -2).toNat).map (fun k => (-2 + ((k : Nat) : Int))) ++ [10 ^ Int.toNat 20, -10 ^ Int.toNat 20]).map V.int := by
        rw [List.map_append, List.map_map]
        rfl
      rw [ez]
      generalize ((List.range ((sg.length : Int) + 2 - -2).toNat).map (fun k => (-2 + ((k : Nat) : Int))) ++ [10 ^ Int.toNat 20, -10 ^ Int.toNat 20]) = zs
      have sx := ((same_new (o := HO.lst (List.map (fun k => V.int (-2 + ((k : Nat) : Int))) (List.range ((sg.length : Int) + 2 - -2).toNat))) n1).trans (same_new (o := HO.lst [V.int (10 ^ Int.toNat 20), V.int (-10 ^ Int.toNat 20)]) n2)).trans (same_new (o := HO.lst (zs.map V.int)) n3)
      have h3x : upd (upd (upd H2 p1 (HO.lst (List.map (fun k => V.int (-2 + ((k : Nat) : Int))) (List.range ((sg.length : Int) + 2 - -2).toNat)))) p2 (HO.lst [V.int (10 ^ Int.toNat 20), V.int (-10 ^ Int.toNat 20)])) p3 (HO.lst (zs.map V.int)) p3 = some (.lst (zs.map V.int)) := upd_same
      generalize upd (upd (upd H2 p1 (HO.lst (List.map (fun k => V.int (-2 + ((k : Nat) : Int))) (List.range ((sg.length : Int) + 2 - -2).toNat)))) p2 (HO.lst [V.int (10 ^ Int.toNat 20), V.int (-10 ^ Int.toNat 20)])) p3 (HO.lst (zs.map V.int)) = Hx at sx h3x ⊢
      have Fx := (F0.same s2).same sx
      have f1x := sx _ _ (s2 _ _ f1)
      have hcx := sx _ _ hc
      refine ⟨⟨_, SqL.of h3x⟩, for_list (K := K) (a := p3) (xs := zs.map V.int) (fun i σ H' => ∃ y, H' = Hx ∧ σ = [some (V.ref p), some (V.ref ls), some (V.ref k), some (V.int (sg.length : Int)), some (V.ref c), y]) ⟨none, rfl, rfl⟩ (fun i σ H' _ ⟨_, e, _⟩ => by rw [e]; exact SqL.of h3x) ?_ ?_⟩
      · rintro i y σ H' hi ⟨y0, rfl, rfl⟩
        rw [List.getElem?_map] at hi
        obtain ⟨z, _, rfl⟩ := Option.map_eq_some_iff.mp hi
        walk_at "RD"
        refine ⟨_, _, f1x, nohas, p, w, h, sg, _, rfl, Fx, g, ⟨_, .int _⟩, _, .bl _, true, rfl, ?_⟩
        rw [if_neg (by decide)]
        refine ⟨_, _, f1x, nohas, p, w, h, sg, _, rfl, Fx, g, ⟨_, .int _⟩, ?_⟩
        dsimp only
        refine ⟨_, .inl (SqL.of hcx), rfl, ?_, rfl, ?_⟩
        · rw [List.all_map, List.all_eq_true]
          intro x _
          rfl
        · have e : inV (V.int z) ((cellsOf sg).map V.int) = hasV sg (V.int z) := by
            rw [in_ints, Bool.eq_iff_iff, decide_eq_true_eq]
            exact mem_cells
          rw [e, if_neg (by simp)]
          exact ⟨rfl, _, rfl⟩
      · rintro σ H' ⟨y, rfl, rfl⟩
        exact hk _ _ ⟨y, sx, rfl⟩
    rintro σ H3 ⟨y, s3, rfl⟩
    have F3 := (F0.same s2).same s3
    have f13 := s3 _ _ (s2 _ _ f1)
    refine tSeq_cut (fun σ H' => ∃ y, Same H3 H' ∧ σ = [some (V.ref p), some (V.ref ls), some (V.ref k), some (V.int (sg.length : Int)), some (V.ref c), y]) (fun nx hk => ?_) ?_
    · walk_at "RD"
      refine ⟨by omega, fun q1 m1 => ⟨by omega, fun q2 m2 q3 m3 => ⟨by omega, fun q4 m4 => ?_⟩⟩⟩
      have a1 := same_new (o := HO.lst [V.int 0]) m1
      have a2 := same_new (o := HO.tup [V.int 0]) m2
      have a3 := same_new (o := HO.dK []) m3
      have a4 := same_new (o := HO.lst [V.bl true, V.bl false, V.non, V.str (Str.ofString "0"), V.str (Str.ofString "."), V.ref q1, V.ref q2, V.ref q3]) m4
      have b1 := a4 _ _ (a3 _ _ (a2 _ _ (upd_same (H := H3) (a := q1) (o := HO.lst [V.int 0]))))
      have b2 := a4 _ _ (a3 _ _ (upd_same (H := upd H3 q1 (HO.lst [V.int 0])) (a := q2) (o := HO.tup [V.int 0])))
      have b3 := a4 _ _ (upd_same (H := upd (upd H3 q1 (HO.lst [V.int 0])) q2 (HO.tup [V.int 0])) (a := q3) (o := HO.dK []))
      have b4 : upd (upd (upd (upd H3 q1 (HO.lst [V.int 0])) q2 (HO.tup [V.int 0])) q3 (HO.dK [])) q4 (HO.lst [V.bl true, V.bl false, V.non, V.str (Str.ofString "0"), V.str (Str.ofString "."), V.ref q1, V.ref q2, V.ref q3]) q4 = some (.lst [V.bl true, V.bl false, V.non, V.str (Str.ofString "0"), V.str (Str.ofString "."), V.ref q1, V.ref q2, V.ref q3]) := upd_same
      have sx := ((a1.trans a2).trans a3).trans a4
      generalize upd (upd (upd (upd H3 q1 (HO.lst [V.int 0])) q2 (HO.tup [V.int 0])) q3 (HO.dK [])) q4 (HO.lst [V.bl true, V.bl false, V.non, V.str (Str.ofString "0"), V.str (Str.ofString "."), V.ref q1, V.ref q2, V.ref q3]) = Hx at sx b1 b2 b3 b4 ⊢
      have Fx := F3.same sx
      have f1x := sx _ _ f13
      refine ⟨⟨_, SqL.of b4⟩, for_list (K := K) (a := q4) (xs := [V.bl true, V.bl false, V.non, V.str (Str.ofString "0"), V.str (Str.ofString "."), V.ref q1, V.ref q2, V.ref q3]) (fun i σ H' => ∃ y, H' = Hx ∧ σ = [some (V.ref p), some (V.ref ls), some (V.ref k), some (V.int (sg.length : Int)), some (V.ref c), y]) ⟨_, rfl, rfl⟩ (fun i σ H' _ ⟨_, e, _⟩ => by rw [e]; exact SqL.of b4) ?_ ?_⟩
      · rintro i x σ H' hi ⟨y0, rfl, rfl⟩
        have hx : TyB K H' x ∧ hasV sg x = false := by
          have hm := List.mem_of_getElem? hi
          simp only [List.mem_cons, List.not_mem_nil, or_false] at hm
          rcases hm with rfl | rfl | rfl | rfl | rfl | rfl | rfl | rfl
          · exact ⟨⟨_, .bl _⟩, rfl⟩
          · exact ⟨⟨_, .bl _⟩, rfl⟩
          · exact ⟨⟨_, .non⟩, rfl⟩
          · exact ⟨⟨_, .str _⟩, rfl⟩
          · exact ⟨⟨_, .str _⟩, rfl⟩
          · exact ⟨⟨_, .lst b1⟩, rfl⟩
          · exact ⟨⟨_, .tup b2⟩, rfl⟩
          · exact ⟨⟨_, .dK b3⟩, rfl⟩
        walk_at "RD"
        refine ⟨_, _, f1x, nohas, p, w, h, sg, _, rfl, Fx, g, hx.1, _, rfl, ?_⟩
        rw [hx.2, if_neg (by decide)]
        exact ⟨rfl, _, rfl⟩
      · rintro σ H' ⟨y, rfl, rfl⟩
        exact hk _ _ ⟨y, sx, rfl⟩
    rintro σ H4 ⟨y, s4, rfl⟩
    walk_at "RD"
    exact hq _ (Same.b ((s2.trans s3).trans s4) k) ((hK.same ((s2.trans s3).trans s4)).mono (by omega))
theorem sc_Leach : FnScope ["_law_floor", "_law_lines_here", "_law_kept", "_law_cell", "_law_found", "_law_place"] ["_law_floor", "_law_lines_here", "_law_kept"] (defScope s_Leach) := ⟨rfl, rfl, rfl, by decide +kernel, rfl, by decide +kernel, by decide +kernel⟩
set_option maxHeartbeats 4000000 in
theorem ok_Leach {fd : FuncData} (F : Fun K "_law_each" "_law_each" s_Leach ad.Leach fd) (T : Txt K mg ad) {fd_Lcells : FuncData} (G_Lcells : FnOk P w K mg base CX0 2 ad.Lcells fd_Lcells ["_law_lines_here"] (spLCells)) (B_Lcells : Binds K fd_Lcells ["_law_lines_here"] []) {fd_Floor_beside : FuncData} (G_Floor_beside : FnOk P w K mg base CX0 4 ad.Floor_beside fd_Floor_beside ["self", "cell"] (spBeside ad.C_Floor)) (B_Floor_beside : Binds K fd_Floor_beside ["self", "cell"] []) {fd_Lsame : FuncData} (G_Lsame : FnOk P w K mg base CX0 2 ad.Lsame fd_Lsame ["_law_found", "_law_due"] (spSame)) (B_Lsame : Binds K fd_Lsame ["_law_found", "_law_due"] []) {fd_Lbeside : FuncData} (G_Lbeside : FnOk P w K mg base CX0 3 ad.Lbeside fd_Lbeside ["_law_lines_here", "_law_cell"] (spLBeside)) (B_Lbeside : Binds K fd_Lbeside ["_law_lines_here", "_law_cell"] []) {fd_Floor_sign : FuncData} (G_Floor_sign : FnOk P w K mg base CX0 1 ad.Floor_sign fd_Floor_sign ["self", "cell"] (spSign ad.C_Floor)) (B_Floor_sign : Binds K fd_Floor_sign ["self", "cell"] []) {fd_Lsign : FuncData} (G_Lsign : FnOk P w K mg base CX0 1 ad.Lsign fd_Lsign ["_law_lines_here", "_law_cell"] (spLSign)) (B_Lsign : Binds K fd_Lsign ["_law_lines_here", "_law_cell"] []) {fd_Floor_row : FuncData} (G_Floor_row : FnOk P w K mg base CX0 1 ad.Floor_row fd_Floor_row ["self", "cell"] (spRowOf ad.C_Floor)) (B_Floor_row : Binds K fd_Floor_row ["self", "cell"] []) {fd_Floor_column : FuncData} (G_Floor_column : FnOk P w K mg base CX0 1 ad.Floor_column fd_Floor_column ["self", "cell"] (spCol ad.C_Floor)) (B_Floor_column : Binds K fd_Floor_column ["self", "cell"] []) {fd_Lwhole : FuncData} (G_Lwhole : FnOk P w K mg base CX0 1 ad.Lwhole fd_Lwhole ["_law_thing"] (spWhole K)) (B_Lwhole : Binds K fd_Lwhole ["_law_thing"] []) : FnOk P w K mg base CX0 5 ad.Leach fd ["_law_floor", "_law_lines_here", "_law_kept"] (spAsk ad.C_Floor) := by
  refine F.ok sc_Leach (fun vs H Q E h => ?_) (fun cdv A outer s H vs Q E HR h => ?_)
  · obtain ⟨p, ls, k, w, h, sg, n, rfl, _⟩ := h
    rfl
  · obtain ⟨p, ls, k, w, h, sg, n, rfl, F0, hL, g, hK, hn, hq⟩ := h
    have ND := sc_Leach.nd
    have HU0 := HR.units0
    have HU := HR.units
    have hA := HR.hd
    have hz : (100000 : Nat) ≤ sizeLine := by rw [sizeLine_eq]; decide
    refine ⟨_, (pss_cons (ps_for PassesOwn.never rfl (pi_list (pe_call G_Lcells (HR.mono (by decide)) (gl_of g_Leach__law_cells) T.mg_Lcells T.k_Lcells B_Lcells .nil pass0 (pa_cons (pe_var (i := 1) (x := "_law_lines_here") rfl (vis_of v_Leach__law_lines_here) d__law_lines_here e__law_lines_here) pa_nil (stp rfl)) (hdb := d__law_cells) (he := stp rfl) (hpl := anp rfl))) (pg_name (i := 3) ND rfl (loc_of (Or.inl l_Leach__law_cell)))
 (pss_cons (ps_set (i := 4) ND rfl (loc_of (Or.inl l_Leach__law_found)) (pe_meth (pe_var (i := 0) (x := "_law_floor") rfl (vis_of v_Leach__law_floor) d__law_floor e__law_floor) T.cl_Floor T.m_Floor_beside G_Floor_beside (HR.mono (by decide)) B_Floor_beside .nil pass0 (pa_cons (pe_var (i := 3) (x := "_law_cell") rfl (vis_of v_Leach__law_cell) d__law_cell e__law_cell) pa_nil (stp rfl)) (hst := stp rfl) (hpl := anp rfl)))
 (pss_cons (ps_if (pt_not (pt_val (pe_call G_Lsame (HR.mono (by decide)) (gl_of g_Leach__law_same) T.mg_Lsame T.k_Lsame B_Lsame .nil pass0 (pa_cons (pe_var (i := 4) (x := "_law_found") rfl (vis_of v_Leach__law_found) d__law_found e__law_found) (pa_cons (pe_call G_Lbeside (HR.mono (by decide)) (gl_of g_Leach__law_beside) T.mg_Lbeside T.k_Lbeside B_Lbeside .nil pass0 (pa_cons (pe_var (i := 1) (x := "_law_lines_here") rfl (vis_of v_Leach__law_lines_here) d__law_lines_here e__law_lines_here) (pa_cons (pe_var (i := 3) (x := "_law_cell") rfl (vis_of v_Leach__law_cell) d__law_cell e__law_cell) pa_nil (stp rfl)) (stp rfl)) (hdb := d__law_beside) (he := stp rfl) (hpl := anp rfl)) pa_nil (stp rfl)) (stp rfl)) (hdb := d__law_same) (he := stp rfl) (hpl := anp rfl))))
 (pss_one (ps_ret pe_bl))
 pss_nil)
 (pss_cons (ps_expr (pe_bm PySem.F.plainAttrs_list PySem.F.slot_list_append PySem.F.type_list_append mt_append (pe_var (i := 4) (x := "_law_found") rfl (vis_of v_Leach__law_found) d__law_found e__law_found) (pa_cons (pe_var (i := 3) (x := "_law_cell") rfl (vis_of v_Leach__law_cell) d__law_cell e__law_cell) pa_nil (stp rfl))))
 (pss_cons (ps_expr (pe_bm PySem.F.plainAttrs_list PySem.F.slot_list_append PySem.F.type_list_append mt_append (pe_var (i := 2) (x := "_law_kept") rfl (vis_of v_Leach__law_kept) d__law_kept e__law_kept) (pa_cons (pe_tup (pa_cons (pe_var (i := 4) (x := "_law_found") rfl (vis_of v_Leach__law_found) d__law_found e__law_found) (pa_cons (pe_callTy call_list_of (gl_of g_Leach_list) T.b_list PyProof.Rows.Boot.«list» (pa_cons (pe_var (i := 4) (x := "_law_found") rfl (vis_of v_Leach__law_found) d__law_found e__law_found) pa_nil (stp rfl)) (hn := n_list) (hdb := d_list) (he := stp rfl) (hpl := anp rfl)) pa_nil (stp rfl)) (stp rfl))) pa_nil (stp rfl))))
 (pss_cons (ps_if (pt_cmpR op_ne (pe_meth (pe_var (i := 0) (x := "_law_floor") rfl (vis_of v_Leach__law_floor) d__law_floor e__law_floor) T.cl_Floor T.m_Floor_sign G_Floor_sign (HR.mono (by decide)) B_Floor_sign .nil pass0 (pa_cons (pe_var (i := 3) (x := "_law_cell") rfl (vis_of v_Leach__law_cell) d__law_cell e__law_cell) pa_nil (stp rfl)) (hst := stp rfl) (hpl := anp rfl)) (pe_call G_Lsign (HR.mono (by decide)) (gl_of g_Leach__law_sign) T.mg_Lsign T.k_Lsign B_Lsign .nil pass0 (pa_cons (pe_var (i := 1) (x := "_law_lines_here") rfl (vis_of v_Leach__law_lines_here) d__law_lines_here e__law_lines_here) (pa_cons (pe_var (i := 3) (x := "_law_cell") rfl (vis_of v_Leach__law_cell) d__law_cell e__law_cell) pa_nil (stp rfl)) (stp rfl)) (hdb := d__law_sign) (he := stp rfl) (hpl := anp rfl)) (nomark _))
 (pss_one (ps_ret pe_bl))
 pss_nil)
 (pss_cons (ps_set (i := 5) ND rfl (loc_of (Or.inl l_Leach__law_place)) (pe_tup (pa_cons (pe_meth (pe_var (i := 0) (x := "_law_floor") rfl (vis_of v_Leach__law_floor) d__law_floor e__law_floor) T.cl_Floor T.m_Floor_row G_Floor_row (HR.mono (by decide)) B_Floor_row .nil pass0 (pa_cons (pe_var (i := 3) (x := "_law_cell") rfl (vis_of v_Leach__law_cell) d__law_cell e__law_cell) pa_nil (stp rfl)) (hst := stp rfl) (hpl := anp rfl)) (pa_cons (pe_meth (pe_var (i := 0) (x := "_law_floor") rfl (vis_of v_Leach__law_floor) d__law_floor e__law_floor) T.cl_Floor T.m_Floor_column G_Floor_column (HR.mono (by decide)) B_Floor_column .nil pass0 (pa_cons (pe_var (i := 3) (x := "_law_cell") rfl (vis_of v_Leach__law_cell) d__law_cell e__law_cell) pa_nil (stp rfl)) (hst := stp rfl) (hpl := anp rfl)) pa_nil (stp rfl)) (stp rfl))))
 (pss_one (ps_if (PW.pt (pw_or (pt_cmpR (op_neD HU) (pe_var (i := 5) (x := "_law_place") rfl (vis_of v_Leach__law_place) d__law_place e__law_place) (pe_tup (pa_cons (pe_op op_fdiv (pe_var (i := 3) (x := "_law_cell") rfl (vis_of v_Leach__law_cell) d__law_cell e__law_cell) (pe_callB call_len_str (gl_of g_Leach_len) T.b_len PyProof.Rows.Boot.«len» (pa_cons (pe_ix ix_list (pe_var (i := 1) (x := "_law_lines_here") rfl (vis_of v_Leach__law_lines_here) d__law_lines_here e__law_lines_here) pe_int (fun _ _ => rfl)) pa_nil (stp rfl)) (hn := n_len) (hdb := d_len) (he := stp rfl) (hpl := anp rfl))) (pa_cons (pe_op op_mod (pe_var (i := 3) (x := "_law_cell") rfl (vis_of v_Leach__law_cell) d__law_cell e__law_cell) (pe_callB call_len_str (gl_of g_Leach_len) T.b_len PyProof.Rows.Boot.«len» (pa_cons (pe_ix ix_list (pe_var (i := 1) (x := "_law_lines_here") rfl (vis_of v_Leach__law_lines_here) d__law_lines_here e__law_lines_here) pe_int (fun _ _ => rfl)) pa_nil (stp rfl)) (hn := n_len) (hdb := d_len) (he := stp rfl) (hpl := anp rfl))) pa_nil (stp rfl)) (stp rfl))) (nomark _)) (pw_or1 (pt_not (pt_val (pe_call G_Lwhole (HR.mono (by decide)) (gl_of g_Leach__law_whole) T.mg_Lwhole T.k_Lwhole B_Lwhole .nil pass0 (pa_cons (pe_ix ix_tup (pe_var (i := 5) (x := "_law_place") rfl (vis_of v_Leach__law_place) d__law_place e__law_place) pe_int (fun _ _ => rfl)) pa_nil (stp rfl)) (hdb := d__law_whole) (he := stp rfl) (hpl := anp rfl)))))))
 (pss_one (ps_ret pe_bl))
 pss_nil)))))))))
 (pss_one (ps_ret pe_bl))), ?_⟩
    have w0 := g.w0
    have w1 := g.w1
    have h0 := g.h0
    have h1 := g.h1
    have l100 := len100 g
    have e0 : atI ((linesOf w h sg).map V.str) 0 = some (V.str (lineOf w sg 0)) := atI_nat (j := 0) (by rw [List.getElem?_map, lines_get (by omega)]; rfl)
    have eL := line_len g (show 0 < h by omega)
    obtain ⟨dx, l, f1, f2⟩ := F0.ob
    have no : ∀ m : Str, ¬ m = "signs" → ¬ m = "lines" → ¬ m = "high" → ¬ m = "wide" → (flds w h l sg).lookup m = none := fun m a b c d => f_no _ _ _ _ a b c d
    have noB := no "beside" (by decide +kernel) (by decide +kernel) (by decide +kernel) (by decide +kernel)
    have noS := no "sign" (by decide +kernel) (by decide +kernel) (by decide +kernel) (by decide +kernel)
    have noR := no "row" (by decide +kernel) (by decide +kernel) (by decide +kernel) (by decide +kernel)
    have noC := no "column" (by decide +kernel) (by decide +kernel) (by decide +kernel) (by decide +kernel)
    have cl := cells_len g
    have ilen : ∀ c : Int, (lawBeside w sg c).length ≤ 100 := fun c => Nat.le_trans (List.length_filter_le _ _) cl
    walk_at "RD"
    refine ⟨ls, w, h, sg, rfl, hL, g, fun r H1 nr s1 hr => ⟨_, rfl, ⟨_, SqL.of hr⟩, ?_⟩⟩
    obtain ⟨ts0, _, hk0, _⟩ := id hK
    have nrk : r ≠ k := fun z => by rw [z, hk0] at nr; cases nr
    refine for_list (K := K) (a := r) (xs := (cellsOf sg).map V.int) (fun i σ H' => ∃ x y z, SameB k H1 H' ∧ KeptOk H' k (n + i) ∧ σ = [some (V.ref p), some (V.ref ls), some (V.ref k), x, y, z]) ⟨none, none, none, fun _ _ e _ => e, hK.same s1, rfl⟩ (fun i σ H' _ ⟨_, _, _, sB, _, _⟩ => SqL.of (sB _ _ hr nrk)) ?_ ?_
    · rintro i y σ H' hi ⟨x0, y0, z0, sB, hK', rfl⟩
      have hil : i < 100 := by
        have := (List.getElem?_eq_some_iff.mp hi).1
        rw [List.length_map] at this
        omega
      rw [List.getElem?_map] at hi
      obtain ⟨o, ho, rfl⟩ := Option.map_eq_some_iff.mp hi
      have ho' := mem_cells.mp (List.mem_of_getElem? ho)
      have o0 : 0 ≤ o ∧ o < sg.length := by
        unfold hasI at ho'
        simp only [Bool.and_eq_true, decide_eq_true_eq] at ho'
        exact ho'.1
      have K1 := hK.same s1
      have F' := (F0.same s1).sameB g K1 sB
      have hL' : LinesAt H' ls w h sg := LinesAt.sameB (s1 _ _ hL) g K1 sB
      obtain ⟨dx', l', f1', f2'⟩ := F'.ob
      have noB' : (flds w h l' sg).lookup ("beside" : Str) = none := f_no _ _ _ _ (by decide +kernel) (by decide +kernel) (by decide +kernel) (by decide +kernel)
      simp only [gName, List.set_cons_succ, List.set_cons_zero]
      refine tSeq_cut (fun σ H2 => ∃ f, H' f = none ∧ Same H' H2 ∧ H2 f = some (.lst ((lawBeside w sg o).map V.int)) ∧ σ = [some (V.ref p), some (V.ref ls), some (V.ref k), some (V.int o), some (V.ref f), z0]) (fun nx hk => ?_) ?_
      · walk_at "RD"
        exact ⟨_, _, f1', noB', p, w, h, sg, o, rfl, F', g, fun f H2 nf s2 hf => hk _ _ ⟨f, nf, s2, by rw [hf, beside_eq g o0.1 o0.2], rfl⟩⟩
      rintro σ H2 ⟨f, nf, s2, hf, rfl⟩
      refine tSeq_cut (fun σ H3 => Same H2 H3 ∧ σ = [some (V.ref p), some (V.ref ls), some (V.ref k), some (V.int o), some (V.ref f), z0]) (fun nx hk => ?_) ?_
      · walk_at "RD"
        refine ⟨ls, w, h, sg, o, rfl, s2 _ _ hL', g, o0.1, o0.2, fun b H3 nb s3 hb => ⟨f, b, _, rfl, s3 _ _ hf, hb, by have := ilen o; omega, fun H4 s4 => ⟨_, rfl, ?_⟩⟩⟩
        rw [if_neg (by decide)]
        exact hk _ _ ⟨s3.trans s4, rfl⟩
      rintro σ H3 ⟨s3, rfl⟩
      have s23 := s2.trans s3
      have hf3 := s3 _ _ hf
      have hK3 := hK'.same s23
      have N3 := kept_no hK' nf s23
      obtain ⟨ts', _, hk', _⟩ := id hK3
      have nfk : f ≠ k := fun z => by
        obtain ⟨_, _, q, _⟩ := id hK'
        rw [z, q] at nf
        cases nf
      refine tSeq_cut (fun σ H4 => H4 = upd H3 f (.lst ((lawBeside w sg o).map V.int ++ [V.int o])) ∧ σ = [some (V.ref p), some (V.ref ls), some (V.ref k), some (V.int o), some (V.ref f), z0]) (fun nx hk => ?_) ?_
      · walk_at "RD"
        exact ⟨.inl ⟨rfl, _, SqL.of hf3⟩, _, hf3, by have := ilen o; rw [List.length_map]; omega, hk _ _ ⟨rfl, rfl⟩⟩
      rintro σ H4 ⟨rfl, rfl⟩
      refine tSeq_cut (fun σ H5 => SameB k H' H5 ∧ KeptOk H5 k (n + (i + 1)) ∧ σ = [some (V.ref p), some (V.ref ls), some (V.ref k), some (V.int o), some (V.ref f), z0]) (fun nx hk => ?_) ?_
      · walk_at "RD"
        refine ⟨.inl ⟨rfl, _, SqL.of (by rw [upd_ne nfk.symm]; exact hk')⟩, _, .inl (SqL.of upd_same), fun cp ncp => ⟨by omega, fun tp ntp => ?_⟩⟩
        obtain ⟨ts, e1, e2, e3, e4, e5⟩ := kept_step hK3 N3 hf3 nfk (by have := ilen o; omega) ncp ntp
        exact ⟨_, e1, by rw [List.length_map]; omega, hk _ _ ⟨fun b' o' hb' nb' => e4 b' o' (s23 b' o' hb') nb' (ne_of_none hb' nf), by rw [← Nat.add_assoc]; exact e3, rfl⟩⟩
      rintro σ H5 ⟨s5, hK5, rfl⟩
      have F5 := F'.sameB g hK' s5
      have hL5 : LinesAt H5 ls w h sg := LinesAt.sameB hL' g hK' s5
      obtain ⟨dx5, l5, f15, f25⟩ := F5.ob
      have noS5 : (flds w h l5 sg).lookup ("sign" : Str) = none := f_no _ _ _ _ (by decide +kernel) (by decide +kernel) (by decide +kernel) (by decide +kernel)
      have noR5 : (flds w h l5 sg).lookup ("row" : Str) = none := f_no _ _ _ _ (by decide +kernel) (by decide +kernel) (by decide +kernel) (by decide +kernel)
      have noC5 : (flds w h l5 sg).lookup ("column" : Str) = none := f_no _ _ _ _ (by decide +kernel) (by decide +kernel) (by decide +kernel) (by decide +kernel)
      refine tSeq_cut (fun σ H6 => H6 = H5 ∧ σ = [some (V.ref p), some (V.ref ls), some (V.ref k), some (V.int o), some (V.ref f), z0]) (fun nx hk => ?_) ?_
      · walk_at "RD"
        refine ⟨_, _, f15, noS5, p, w, h, sg, o, rfl, F5, g, o0.1, o0.2, ls, w, h, sg, o, rfl, hL5, g, o0.1, o0.2, rfl, ?_⟩
        rw [if_neg (by simp)]
        exact hk _ _ ⟨rfl, rfl⟩
      rintro σ H6 ⟨rfl, rfl⟩
      refine tSeq_cut (fun σ H7 => ∃ q, Same H6 H7 ∧ H7 q = some (.tup [.int (o / w), .int (o % w)]) ∧ σ = [some (V.ref p), some (V.ref ls), some (V.ref k), some (V.int o), some (V.ref f), some (V.ref q)]) (fun nx hk => ?_) ?_
      · walk_at "RD"
        exact ⟨_, _, f15, noR5, p, w, h, sg, o, rfl, F5, g, _, _, f15, noC5, p, w, h, sg, o, rfl, F5, g, by omega, fun q nq => hk _ _ ⟨q, same_new nq, upd_same, rfl⟩⟩
      rintro σ H7 ⟨q, s7, hq7, rfl⟩
      have hL7 := s7 _ _ hL5
      walk_at "RD"
      refine ⟨_, SqL.of hL7, _, e0, _, rfl, by rw [eL]; omega, ?_⟩
      rw [eL]
      refine ⟨⟨by omega, by omega⟩, _, SqL.of hL7, _, e0, _, rfl, by rw [eL]; omega, ?_⟩
      rw [eL]
      refine ⟨by omega, by omega, fun u nu => ?_⟩
      have s8 := same_new (o := HO.tup [V.int (o / w), V.int (o % w)]) nu
      refine ⟨_, .tup (SqT.of (s8 _ _ hq7)) (.cons (.int _) (.cons (.int _) .nil)), _, .tup (SqT.of upd_same) (.cons (.int _) (.cons (.int _) .nil)), rfl, rfl, ?_⟩
      rw [if_neg (by simp [PyData.eqv, PyData.eqvAll])]
      refine ⟨_, SqT.of (s8 _ _ hq7), _, rfl, _, rfl, ⟨_, .int _⟩, _, rfl, ?_⟩
      rw [if_neg (by simp [isI])]
      exact ⟨fun b' o' e nb => s8 _ _ (s7 _ _ (s5 b' o' (sB b' o' e nb) nb)), (hK5.same s7).same s8, _, rfl⟩
    · rintro σ H' ⟨x0, y0, z0, sB, hK', rfl⟩
      walk_at "RD"
      refine hq H' (fun b o e nb => sB b o (s1 b o e) nb) (hK'.mono ?_)
      rw [List.length_map]
      omega
theorem sc_Lasked : FnScope ["_law_floor", "_law_lines_here", "_law_kept", "_law_which"] ["_law_floor", "_law_lines_here", "_law_kept", "_law_which"] (defScope s_Lasked) := ⟨rfl, rfl, rfl, by decide +kernel, rfl, by decide +kernel, by decide +kernel⟩
set_option maxHeartbeats 4000000 in
theorem ok_Lasked {fd : FuncData} (F : Fun K "_law_asked" "_law_asked" s_Lasked ad.Lasked fd) (T : Txt K mg ad) {fd_Lfields : FuncData} (G_Lfields : FnOk P w K mg base CX0 2 ad.Lfields fd_Lfields ["_law_floor", "_law_lines_here", "_law_kept"] (spAsk ad.C_Floor)) (B_Lfields : Binds K fd_Lfields ["_law_floor", "_law_lines_here", "_law_kept"] []) {fd_Llists : FuncData} (G_Llists : FnOk P w K mg base CX0 5 ad.Llists fd_Llists ["_law_floor", "_law_lines_here", "_law_kept"] (spAsk ad.C_Floor)) (B_Llists : Binds K fd_Llists ["_law_floor", "_law_lines_here", "_law_kept"] []) {fd_Lthings : FuncData} (G_Lthings : FnOk P w K mg base CX0 4 ad.Lthings fd_Lthings ["_law_floor", "_law_lines_here", "_law_kept"] (spAsk ad.C_Floor)) (B_Lthings : Binds K fd_Lthings ["_law_floor", "_law_lines_here", "_law_kept"] []) {fd_Leach : FuncData} (G_Leach : FnOk P w K mg base CX0 5 ad.Leach fd_Leach ["_law_floor", "_law_lines_here", "_law_kept"] (spAsk ad.C_Floor)) (B_Leach : Binds K fd_Leach ["_law_floor", "_law_lines_here", "_law_kept"] []) : FnOk P w K mg base CX0 6 ad.Lasked fd ["_law_floor", "_law_lines_here", "_law_kept", "_law_which"] (spAskW ad.C_Floor) := by
  refine F.ok sc_Lasked (fun vs H Q E h => ?_) (fun cdv A outer s H vs Q E HR h => ?_)
  · obtain ⟨p, ls, k, c, w, h, sg, n, rfl, _⟩ := h
    rfl
  · obtain ⟨p, ls, k, c, w, h, sg, n, rfl, F0, hL, g, hK, hn, hq⟩ := h
    have ND := sc_Lasked.nd
    have HU0 := HR.units0
    have HU := HR.units
    have hA := HR.hd
    have hz : (100000 : Nat) ≤ sizeLine := by rw [sizeLine_eq]; decide
    refine ⟨_, (pss_cons (ps_if (pt_cmpR op_eq (pe_var (i := 3) (x := "_law_which") rfl (vis_of v_Lasked__law_which) d__law_which e__law_which) pe_int (nomark _))
 (pss_one (ps_ret (pe_call G_Lfields (HR.mono (by decide)) (gl_of g_Lasked__law_fields) T.mg_Lfields T.k_Lfields B_Lfields .nil pass0 (pa_cons (pe_var (i := 0) (x := "_law_floor") rfl (vis_of v_Lasked__law_floor) d__law_floor e__law_floor) (pa_cons (pe_var (i := 1) (x := "_law_lines_here") rfl (vis_of v_Lasked__law_lines_here) d__law_lines_here e__law_lines_here) (pa_cons (pe_var (i := 2) (x := "_law_kept") rfl (vis_of v_Lasked__law_kept) d__law_kept e__law_kept) pa_nil (stp rfl)) (stp rfl)) (stp rfl)) (hdb := d__law_fields) (he := stp rfl) (hpl := anp rfl))))
 pss_nil)
 (pss_cons (ps_if (pt_cmpR op_eq (pe_var (i := 3) (x := "_law_which") rfl (vis_of v_Lasked__law_which) d__law_which e__law_which) pe_int (nomark _))
 (pss_one (ps_ret (pe_call G_Llists (HR.mono (by decide)) (gl_of g_Lasked__law_lists) T.mg_Llists T.k_Llists B_Llists .nil pass0 (pa_cons (pe_var (i := 0) (x := "_law_floor") rfl (vis_of v_Lasked__law_floor) d__law_floor e__law_floor) (pa_cons (pe_var (i := 1) (x := "_law_lines_here") rfl (vis_of v_Lasked__law_lines_here) d__law_lines_here e__law_lines_here) (pa_cons (pe_var (i := 2) (x := "_law_kept") rfl (vis_of v_Lasked__law_kept) d__law_kept e__law_kept) pa_nil (stp rfl)) (stp rfl)) (stp rfl)) (hdb := d__law_lists) (he := stp rfl) (hpl := anp rfl))))
 pss_nil)
 (pss_cons (ps_if (pt_cmpR op_eq (pe_var (i := 3) (x := "_law_which") rfl (vis_of v_Lasked__law_which) d__law_which e__law_which) pe_int (nomark _))
 (pss_one (ps_ret (pe_call G_Lthings (HR.mono (by decide)) (gl_of g_Lasked__law_things) T.mg_Lthings T.k_Lthings B_Lthings .nil pass0 (pa_cons (pe_var (i := 0) (x := "_law_floor") rfl (vis_of v_Lasked__law_floor) d__law_floor e__law_floor) (pa_cons (pe_var (i := 1) (x := "_law_lines_here") rfl (vis_of v_Lasked__law_lines_here) d__law_lines_here e__law_lines_here) (pa_cons (pe_var (i := 2) (x := "_law_kept") rfl (vis_of v_Lasked__law_kept) d__law_kept e__law_kept) pa_nil (stp rfl)) (stp rfl)) (stp rfl)) (hdb := d__law_things) (he := stp rfl) (hpl := anp rfl))))
 pss_nil)
 (pss_one (ps_ret (pe_call G_Leach (HR.mono (by decide)) (gl_of g_Lasked__law_each) T.mg_Leach T.k_Leach B_Leach .nil pass0 (pa_cons (pe_var (i := 0) (x := "_law_floor") rfl (vis_of v_Lasked__law_floor) d__law_floor e__law_floor) (pa_cons (pe_var (i := 1) (x := "_law_lines_here") rfl (vis_of v_Lasked__law_lines_here) d__law_lines_here e__law_lines_here) (pa_cons (pe_var (i := 2) (x := "_law_kept") rfl (vis_of v_Lasked__law_kept) d__law_kept e__law_kept) pa_nil (stp rfl)) (stp rfl)) (stp rfl)) (hdb := d__law_each) (he := stp rfl) (hpl := anp rfl))))))), ?_⟩
    walk_at "RD"
    have e : spAsk ad.C_Floor [V.ref p, V.ref ls, V.ref k] H Q E0 := ⟨p, ls, k, w, h, sg, n, rfl, F0, hL, g, hK, hn, hq⟩
    split
    · exact e
    · split
      · exact e
      · split
        · exact e
        · exact e
theorem sc_law : FnScope ["_law_script", "_law_both", "_law_handed", "_law_floors", "_law_kept", "_law_turn", "_law_cell", "_law_k", "_law_which", "_law_at_here"] ["_law_script"] (defScope s_law) := ⟨rfl, rfl, rfl, by decide +kernel, rfl, by decide +kernel, by decide +kernel⟩
set_option maxHeartbeats 4000000 in
theorem ok_law {fd : FuncData} (F : Fun K "law" "law" s_law ad.law fd) (T : Txt K mg ad) {fd_Lat : FuncData} (G_Lat : FnOk P w K mg base CX0 1 ad.Lat fd_Lat ["_law_script", "_law_k"] (spAt K)) (B_Lat : Binds K fd_Lat ["_law_script", "_law_k"] []) {fd_Llines : FuncData} (G_Llines : FnOk P w K mg base CX0 2 ad.Llines fd_Llines ["_law_script", "_law_k", "_law_most"] (spLines K)) (B_Llines : Binds K fd_Llines ["_law_script", "_law_k", "_law_most"] []) {fd_Floor_init : FuncData} (G_Floor_init : FnOk P w K mg base CX0 4 ad.Floor_init fd_Floor_init ["self", "lines"] (spInit ad.C_Floor)) (B_Floor_init : Binds K fd_Floor_init ["self", "lines"] []) {fd_Lasked : FuncData} (G_Lasked : FnOk P w K mg base CX0 6 ad.Lasked fd_Lasked ["_law_floor", "_law_lines_here", "_law_kept", "_law_which"] (spAskW ad.C_Floor)) (B_Lasked : Binds K fd_Lasked ["_law_floor", "_law_lines_here", "_law_kept", "_law_which"] []) : FnOk P w K mg base CX0 7 ad.law fd ["_law_script"] (spLaw K) := by
  refine F.ok sc_law (fun vs H Q E h => ?_) (fun cdv A outer s H vs Q E HR h => ?_)
  · obtain ⟨a, ns, rfl, _⟩ := h
    rfl
  · obtain ⟨a, ns, rfl, hS, hl, hq⟩ := h
    have ND := sc_law.nd
    have HU0 := HR.units0
    have HU := HR.units
    have hA := HR.hd
    have hz : (100000 : Nat) ≤ sizeLine := by rw [sizeLine_eq]; decide
    refine ⟨_, (pss_cons (ps_set (i := 1) ND rfl (loc_of (Or.inl l_law__law_both)) (pe_lst (pa_cons (pe_call G_Llines (HR.mono (by decide)) (gl_of g_law__law_lines) T.mg_Llines T.k_Llines B_Llines .nil pass0 (pa_cons (pe_var (i := 0) (x := "_law_script") rfl (vis_of v_law__law_script) d__law_script e__law_script) (pa_cons pe_int (pa_cons (pe_ix ix_list (pe_lst (pa_cons pe_int (pa_cons pe_int (pa_cons pe_int (pa_cons pe_int pa_nil (stp rfl)) (stp rfl)) (stp rfl)) (stp rfl))) (pe_op op_mod (pe_call G_Lat (HR.mono (by decide)) (gl_of g_law__law_at) T.mg_Lat T.k_Lat B_Lat .nil pass0 (pa_cons (pe_var (i := 0) (x := "_law_script") rfl (vis_of v_law__law_script) d__law_script e__law_script) (pa_cons pe_int pa_nil (stp rfl)) (stp rfl)) (hdb := d__law_at) (he := stp rfl) (hpl := anp rfl)) pe_int) (fun _ _ => rfl)) pa_nil (stp rfl)) (stp rfl)) (stp rfl)) (hdb := d__law_lines) (he := stp rfl) (hpl := anp rfl)) (pa_cons (pe_call G_Llines (HR.mono (by decide)) (gl_of g_law__law_lines) T.mg_Llines T.k_Llines B_Llines .nil pass0 (pa_cons (pe_var (i := 0) (x := "_law_script") rfl (vis_of v_law__law_script) d__law_script e__law_script) (pa_cons pe_int (pa_cons pe_int pa_nil (stp rfl)) (stp rfl)) (stp rfl)) (hdb := d__law_lines) (he := stp rfl) (hpl := anp rfl)) pa_nil (stp rfl)) (stp rfl))))
 (pss_cons (ps_comp (i := 2) (CompScope.of (osc := defScope s_law) (tn := ["_law_lines_here"]) (cn := []) (caps := []) rfl rfl (by decide +kernel) (by decide +kernel) (by decide +kernel) (by decide +kernel) rfl) rfl ND rfl l_law__law_handed (pi_list (pe_var (i := 1) (x := "_law_both") rfl (vis_of v_law__law_both) d__law_both e__law_both))
 (fun _ _ _ _ _ => (pg_name (i := 0) (show (["_law_lines_here"] : List Str).Nodup by decide +kernel) rfl (Or.inl rfl))) (fun _ _ _ _ _ => pts_nil) (fun _ _ _ _ _ => (pe_callTy (call_list_ofK (K := K) rfl) (by rfl) T.b_list PyProof.Rows.Boot.«list» (pa_cons (pv 0) pa_nil (stp rfl)) (hn := n_list) (hdb := d_list) (he := stp rfl) (hpl := anp rfl))) (hsw := by rfl))
 (pss_cons (ps_set (i := 3) ND rfl (loc_of (Or.inl l_law__law_floors)) (pe_lst (pa_cons (pe_make T.mk_Floor G_Floor_init (HR.mono (by decide)) (gl_of g_law_Floor) T.mg_Floor B_Floor_init .nil pass0 (pa_cons (pe_ix ix_list (pe_var (i := 2) (x := "_law_handed") rfl (vis_of v_law__law_handed) d__law_handed e__law_handed) pe_int (fun _ _ => rfl)) pa_nil (stp rfl)) (hdb := d_Floor) (he := stp rfl) (hpl := anp rfl)) (pa_cons (pe_make T.mk_Floor G_Floor_init (HR.mono (by decide)) (gl_of g_law_Floor) T.mg_Floor B_Floor_init .nil pass0 (pa_cons (pe_ix ix_list (pe_var (i := 2) (x := "_law_handed") rfl (vis_of v_law__law_handed) d__law_handed e__law_handed) pe_int (fun _ _ => rfl)) pa_nil (stp rfl)) (hdb := d_Floor) (he := stp rfl) (hpl := anp rfl)) pa_nil (stp rfl)) (stp rfl))))
 (pss_cons (ps_if (pt_cmpR (op_neD HU) (pe_var (i := 2) (x := "_law_handed") rfl (vis_of v_law__law_handed) d__law_handed e__law_handed) (pe_var (i := 1) (x := "_law_both") rfl (vis_of v_law__law_both) d__law_both e__law_both) (nomark _))
 (pss_one (ps_ret pe_bl))
 pss_nil)
 (pss_cons (ps_asg (pe_op op_add_str (pe_op op_mul_str pe_str (pe_op op_sub (pe_callB call_len_str (gl_of g_law_len) T.b_len PyProof.Rows.Boot.«len» (pa_cons (pe_ix ix_list (pe_ix ix_list (pe_var (i := 1) (x := "_law_both") rfl (vis_of v_law__law_both) d__law_both e__law_both) pe_int (fun _ _ => rfl)) pe_int (fun _ _ => rfl)) pa_nil (stp rfl)) (hn := n_len) (hdb := d_len) (he := stp rfl) (hpl := anp rfl)) pe_int)) pe_str) (pg_sub (pe_ix ix_list (pe_var (i := 2) (x := "_law_handed") rfl (vis_of v_law__law_handed) d__law_handed e__law_handed) pe_int (fun _ _ => rfl)) pe_int set_list))
 (pss_cons (ps_expr (pe_bm PySem.F.plainAttrs_list PySem.F.slot_list_append PySem.F.type_list_append mt_append (pe_ix ix_list (pe_var (i := 2) (x := "_law_handed") rfl (vis_of v_law__law_handed) d__law_handed e__law_handed) pe_int (fun _ _ => rfl)) (pa_cons pe_str pa_nil (stp rfl))))
 (pss_cons (ps_expr (pe_bm PySem.F.plainAttrs_list PySem.F.slot_list_append PySem.F.type_list_append mt_append (pe_ix ix_list (pe_var (i := 2) (x := "_law_handed") rfl (vis_of v_law__law_handed) d__law_handed e__law_handed) pe_int (fun _ _ => rfl)) (pa_cons pe_str pa_nil (stp rfl))))
 (pss_cons (ps_set (i := 4) ND rfl (loc_of (Or.inl l_law__law_kept)) (pe_lst pa_nil))
 (pss_cons (ps_for PassesOwn.never rfl (pi_range1 (gl_of g_law_range) T.b_range (pa_cons pe_int pa_nil (stp rfl)) (st1 rfl)) (pg_name (i := 5) ND rfl (loc_of (Or.inl l_law__law_turn)))
 (pss_cons (ps_set (i := 6) ND rfl (loc_of (Or.inl l_law__law_cell)) (pe_call G_Lat (HR.mono (by decide)) (gl_of g_law__law_at) T.mg_Lat T.k_Lat B_Lat .nil pass0 (pa_cons (pe_var (i := 0) (x := "_law_script") rfl (vis_of v_law__law_script) d__law_script e__law_script) (pa_cons (pe_op op_add pe_int (pe_var (i := 5) (x := "_law_turn") rfl (vis_of v_law__law_turn) d__law_turn e__law_turn)) pa_nil (stp rfl)) (stp rfl)) (hdb := d__law_at) (he := stp rfl) (hpl := anp rfl)))
 (pss_one (ps_for PassesOwn.never rfl (pi_range1 (gl_of g_law_range) T.b_range (pa_cons pe_int pa_nil (stp rfl)) (st1 rfl)) (pg_name (i := 7) ND rfl (loc_of (Or.inl l_law__law_k)))
 (pss_cons (ps_set (i := 8) ND rfl (loc_of (Or.inl l_law__law_which)) (pe_op op_mod (pe_op op_add (pe_var (i := 6) (x := "_law_cell") rfl (vis_of v_law__law_cell) d__law_cell e__law_cell) (pe_op op_mul (pe_var (i := 7) (x := "_law_k") rfl (vis_of v_law__law_k) d__law_k e__law_k) (pe_op op_add pe_int (pe_op op_mul pe_int (pe_op op_mod (pe_op op_fdiv (pe_var (i := 6) (x := "_law_cell") rfl (vis_of v_law__law_cell) d__law_cell e__law_cell) pe_int) pe_int))))) pe_int))
 (pss_one (ps_for PassesOwn.never rfl (pi_tup (pe_tup (pa_cons (pe_op op_mod (pe_op op_fdiv (pe_var (i := 6) (x := "_law_cell") rfl (vis_of v_law__law_cell) d__law_cell e__law_cell) pe_int) pe_int) (pa_cons (pe_op op_sub pe_int (pe_op op_mod (pe_op op_fdiv (pe_var (i := 6) (x := "_law_cell") rfl (vis_of v_law__law_cell) d__law_cell e__law_cell) pe_int) pe_int)) pa_nil (stp rfl)) (stp rfl)))) (pg_name (i := 9) ND rfl (loc_of (Or.inl l_law__law_at_here)))
 (pss_one (ps_if (pt_not (pt_val (pe_call G_Lasked (HR.mono (by decide)) (gl_of g_law__law_asked) T.mg_Lasked T.k_Lasked B_Lasked .nil pass0 (pa_cons (pe_ix ix_list (pe_var (i := 3) (x := "_law_floors") rfl (vis_of v_law__law_floors) d__law_floors e__law_floors) (pe_var (i := 9) (x := "_law_at_here") rfl (vis_of v_law__law_at_here) d__law_at_here e__law_at_here) (fun _ _ => rfl)) (pa_cons (pe_ix ix_list (pe_var (i := 1) (x := "_law_both") rfl (vis_of v_law__law_both) d__law_both e__law_both) (pe_var (i := 9) (x := "_law_at_here") rfl (vis_of v_law__law_at_here) d__law_at_here e__law_at_here) (fun _ _ => rfl)) (pa_cons (pe_var (i := 4) (x := "_law_kept") rfl (vis_of v_law__law_kept) d__law_kept e__law_kept) (pa_cons (pe_var (i := 8) (x := "_law_which") rfl (vis_of v_law__law_which) d__law_which e__law_which) pa_nil (stp rfl)) (stp rfl)) (stp rfl)) (stp rfl)) (hdb := d__law_asked) (he := stp rfl) (hpl := anp rfl))))
 (pss_one (ps_ret pe_bl))
 pss_nil)))))))))
 (pss_one (ps_ret (pe_cmpR (op_eqD HU) (pe_comp (CompScope.of (osc := defScope s_law) (tn := ["_law_pair"]) (cn := []) (caps := []) rfl rfl (by decide +kernel) (by decide +kernel) (by decide +kernel) (by decide +kernel) rfl) rfl  (pi_list (pe_var (i := 4) (x := "_law_kept") rfl (vis_of v_law__law_kept) d__law_kept e__law_kept))
 (fun _ _ _ _ _ => (pg_name (i := 0) (show (["_law_pair"] : List Str).Nodup by decide +kernel) rfl (Or.inl rfl))) (fun _ _ _ _ _ => (pts_one (pt_cmpR (op_neDK (K := K) rfl HU) (pe_ix (ix_tupK (K := K) rfl) (pv 0) pe_int (fun _ _ => rfl)) (pe_ix (ix_tupK (K := K) rfl) (pv 0) pe_int (fun _ _ => rfl)) (nomark _)))) (fun _ _ _ _ _ => (pv 0))) (pe_lst pa_nil) (nomark _))))))))))))), ?_⟩
    have tab : ∀ i : Int, ∃ m : Int, atI [V.int 4, V.int 5, V.int 10, V.int 6] (i % 4) = some (V.int m) ∧ 1 ≤ m ∧ m ≤ 10 := fun i => by
      have h4 : i % 4 = 0 ∨ i % 4 = 1 ∨ i % 4 = 2 ∨ i % 4 = 3 := by omega
      rcases h4 with h | h | h | h <;> rw [h] <;> exact ⟨_, rfl, by decide, by decide⟩
    refine tSeq_cut (fun σ H' => ∃ bo l1 l2 w1 h1 sg1 w2 h2 sg2, Same H H' ∧ H' bo = some (.lst [V.ref l1, V.ref l2]) ∧ LinesAt H' l1 w1 h1 sg1 ∧ LinesAt H' l2 w2 h2 sg2 ∧ Good w1 h1 sg1 ∧ Good w2 h2 sg2 ∧ σ = [some (V.ref a), some (V.ref bo), none, none, none, none, none, none, none, none]) (fun nx hk => ?_) ?_
    · walk_at "RD"
      refine ⟨by omega, fun p np => ?_⟩
      have s1 := same_new (o := HO.lst [V.int 4, V.int 5, V.int 10, V.int 6]) np
      refine ⟨_, _, _, rfl, s1.seq hS, hl, by decide, by decide, fun r r0 r1 => ⟨_, rfl, by decide, _, SqL.of upd_same, ?_⟩⟩
      obtain ⟨m, hm, m0, m1⟩ := tab r
      refine ⟨_, hm, _, _, _, _, rfl, s1.seq hS, hl, by decide, by decide, m0, m1, fun l1 H1 w1 h1 sg1 n1 s2 hl1 g1 => ⟨_, _, _, _, rfl, (s1.trans s2).seq hS, hl, by decide, by decide, by decide, by decide, fun l2 H2 w2 h2 sg2 n2 s3 hl2 g2 => ⟨by omega, fun bo nb => ?_⟩⟩⟩
      have s4 := same_new (o := HO.lst [V.ref l1, V.ref l2]) nb
      exact hk _ _ ⟨bo, l1, l2, w1, h1, sg1, w2, h2, sg2, ((s1.trans s2).trans s3).trans s4, upd_same, s4 _ _ (s3 _ _ hl1), s4 _ _ hl2, g1, g2, rfl⟩
    rintro σ H1 ⟨bo, l1, l2, w1, h1, sg1, w2, h2, sg2, s1, hbo, hl1, hl2, g1, g2, rfl⟩
    have hS1 := s1.seq hS
    -- the copies that are handed in
    refine tSeq_cut (fun σ H' => ∃ ha c1 c2, Same H1 H' ∧ H1 c1 = none ∧ H1 c2 = none ∧ H1 ha = none ∧ c1 ≠ c2 ∧ ha ≠ c1 ∧ ha ≠ c2 ∧ H' ha = some (.lst [V.ref c1, V.ref c2]) ∧ LinesAt H' c1 w1 h1 sg1 ∧ LinesAt H' c2 w2 h2 sg2 ∧ σ = [some (V.ref a), some (V.ref bo), some (V.ref ha), none, none, none, none, none, none, none]) (fun nx hk => ?_) ?_
    · walk_at "RD"
      refine ⟨⟨_, SqL.of hbo⟩, comp_list (K := K) (a := bo) (xs := [V.ref l1, V.ref l2]) (fun i ys H' => Same H1 H' ∧ (i = 0 → ys = [] ∧ H' = H1) ∧ (i = 1 → ∃ c1, H1 c1 = none ∧ ys = [V.ref c1] ∧ LinesAt H' c1 w1 h1 sg1) ∧ (i = 2 → ∃ c1 c2, H1 c1 = none ∧ H1 c2 = none ∧ c1 ≠ c2 ∧ ys = [V.ref c1, V.ref c2] ∧ LinesAt H' c1 w1 h1 sg1 ∧ LinesAt H' c2 w2 h2 sg2))
        ⟨Same.refl _, fun _ => ⟨rfl, rfl⟩, fun z => (by cases z), fun z => (by cases z)⟩ (fun i ys H' _ p => SqL.of (p.1 _ _ hbo)) ?_ ?_⟩
      · rintro i x ys H' hi ⟨sm, p0, p1, p2⟩
        match i, hi with
        | 0, hi =>
          cases hi
          obtain ⟨rfl, rfl⟩ := p0 rfl
          walk_at "RD"
          refine ⟨_, .inl (SqL.of hl1), fun c nc => ⟨by show 0 ≤ sizeLine; omega, same_new nc, fun z => (by cases z), fun _ => ⟨c, nc, rfl, upd_same⟩, fun z => (by cases z)⟩⟩
        | 1, hi =>
          cases hi
          obtain ⟨c1, n1, rfl, hc1⟩ := p1 rfl
          walk_at "RD"
          refine ⟨_, .inl (SqL.of (sm _ _ hl2)), fun c nc => ⟨by show 1 ≤ sizeLine; omega, sm.trans (same_new nc), fun z => (by cases z), fun z => (by cases z), fun _ => ⟨c1, n1, c, sm.free nc, ne_of_none hc1 nc, rfl, rfl, same_new nc _ _ hc1, upd_same⟩⟩⟩
      · rintro ys H' ⟨sm, _, _, p2⟩
        obtain ⟨c1, c2, n1, n2, n12, rfl, hc1, hc2⟩ := p2 rfl
        refine ⟨by show 2 ≤ sizeLine; omega, fun ha nh => hk _ _ ⟨ha, c1, c2, sm.trans (same_new nh), n1, n2, sm.free nh, n12, (ne_of_none hc1 nh).symm, (ne_of_none hc2 nh).symm, upd_same, same_new nh _ _ hc1, same_new nh _ _ hc2, rfl⟩⟩
    rintro σ H2 ⟨ha, c1, c2, s2, nc1, nc2, nha, n12, nh1, nh2, hha, hc1, hc2, rfl⟩
    -- the floors
    refine tSeq_cut (fun σ H' => ∃ fl p1 p2 d1 d2 m1 m2, Same H2 H' ∧ H2 m1 = none ∧ H2 m2 = none ∧ H' fl = some (.lst [V.ref p1, V.ref p2]) ∧ H2 fl = none ∧ H' p1 = some (.ins ad.C_Floor d1 (flds w1 h1 m1 sg1)) ∧ LinesAt H' m1 w1 h1 sg1 ∧ H' p2 = some (.ins ad.C_Floor d2 (flds w2 h2 m2 sg2)) ∧ LinesAt H' m2 w2 h2 sg2 ∧ σ = [some (V.ref a), some (V.ref bo), some (V.ref ha), some (V.ref fl), none, none, none, none, none, none]) (fun nx hk => ?_) ?_
    · walk_at "RD"
      refine ⟨_, SqL.of hha, _, rfl, fun p1 d1 np1 nd1 nd => ?_⟩
      have t1 : Same H2 (upd (upd H2 d1 (HO.own p1)) p1 (HO.ins ad.C_Floor d1 [])) := fun b o e => by
        rw [upd_ne (ne_of_none e np1), upd_ne (ne_of_none e nd1)]
        exact e
      refine ⟨p1, d1, c1, w1, h1, sg1, rfl, upd_same, t1 _ _ hc1, g1, fun H3 d1' m1 nm1 hp1 hm1 fr => ⟨rfl, ?_⟩⟩
      have t2 : Same H2 H3 := fun b o e => fr b o (t1 b o e) (ne_of_none e np1)
      refine ⟨_, SqL.of (t2 _ _ hha), _, rfl, fun p2 d2 np2 nd2 nd' => ?_⟩
      have t3 : Same H3 (upd (upd H3 d2 (HO.own p2)) p2 (HO.ins ad.C_Floor d2 [])) := fun b o e => by
        rw [upd_ne (ne_of_none e np2), upd_ne (ne_of_none e nd2)]
        exact e
      refine ⟨p2, d2, c2, w2, h2, sg2, rfl, upd_same, t3 _ _ (t2 _ _ hc2), g2, fun H4 d2' m2 nm2 hp2 hm2 fr2 => ⟨rfl, by omega, fun fl nf => ?_⟩⟩
      have t4 : Same H3 H4 := fun b o e => fr2 b o (t3 b o e) (ne_of_none e np2)
      have t5 := same_new (o := HO.lst [V.ref p1, V.ref p2]) nf
      exact hk _ _ ⟨fl, p1, p2, d1', d2', m1, m2, (t2.trans t4).trans t5, t1.free nm1, (t2.trans t3).free nm2, upd_same, (t2.trans t4).free nf, t5 _ _ (t4 _ _ hp1), t5 _ _ (t4 _ _ hm1), t5 _ _ hp2, t5 _ _ hm2, rfl⟩
    rintro σ H3 ⟨fl, p1, p2, d1, d2, m1, m2, s3, nm1, nm2, hfl, nfl, hp1, hm1, hp2, hm2, rfl⟩
    have shl : ∀ {w h : Nat} {sg : List Nat}, Good w h sg → PyData.canLay0 (.list ((linesOf w h sg).map PyData.str)) = true ∧ PyData.depth (.list ((linesOf w h sg).map PyData.str)) ≤ 2 := fun {w h sg} g => by
      have hs : SeqAt.shaped (.list ((linesOf w h sg).map PyData.str)) = true := shaped_strs _ (fun x hx => by
        obtain ⟨j, _, rfl⟩ := List.mem_map.mp hx
        refine strOk_of fun c hc => ?_
        rcases line_ok g c hc with z | z | z | z | z <;> omega)
      refine ⟨SeqAt.canLay_of_shaped hs, ?_⟩
      have b : ∀ ns : List Str, PyData.depthAll (ns.map PyData.str) = 0 := by
        intro ns
        induction ns with
        | nil => rfl
        | cons x r ih => simp [PyData.depthAll, PyData.depth, ih]
      simp [PyData.depth, b]
    refine tSeq_cut (fun σ H' => H' = H3 ∧ σ = [some (V.ref a), some (V.ref bo), some (V.ref ha), some (V.ref fl), none, none, none, none, none, none]) (fun nx hk => ?_) ?_
    · walk_at "RD"
      have hs : SeqAt.shaped (.list [.list ((linesOf w1 h1 sg1).map PyData.str), .list ((linesOf w2 h2 sg2).map PyData.str)]) = true := by
        obtain ⟨a1, a2⟩ := shl g1
        obtain ⟨b1, b2⟩ := shl g2
        unfold SeqAt.shaped
        rw [Bool.and_eq_true]
        constructor
        · show (PyData.canLay0 _ && (PyData.canLay0 _ && true)) = true
          rw [a1, b1]
          rfl
        · refine decide_eq_true ?_
          show PyData.depth (.list _) ≤ 64
          simp only [PyData.depth, PyData.depthAll] at a2 b2 ⊢
          omega
      refine ⟨_, .lst (SqL.of (s3 _ _ hha)) (.cons (.lst (SqL.of (s3 _ _ hc1)) (denAll_strs _)) (.cons (.lst (SqL.of (s3 _ _ hc2)) (denAll_strs _)) .nil)), _, .lst (SqL.of (s3 _ _ (s2 _ _ hbo))) (.cons (.lst (SqL.of (s3 _ _ (s2 _ _ hl1))) (denAll_strs _)) (.cons (.lst (SqL.of (s3 _ _ (s2 _ _ hl2))) (denAll_strs _)) .nil)), hs, hs, ?_⟩
      rw [eqv_self _ (SeqAt.canLay_of_shaped hs), if_neg (by decide)]
      exact hk _ _ ⟨rfl, rfl⟩
    rintro σ H4 ⟨rfl, rfl⟩
    -- what was handed in is changed
    have hc1' := s3 _ _ hc1
    have hc2' := s3 _ _ hc2
    have hha' := s3 _ _ hha
    refine tSeq_cut (fun σ H' => ∃ X1 X2, (∀ b o, H4 b = some o → b ≠ c1 → b ≠ c2 → H' b = some o) ∧ X1.length ≤ 20 ∧ X2.length ≤ 20 ∧ H' c1 = some (.lst X1) ∧ H' c2 = some (.lst X2) ∧ σ = [some (V.ref a), some (V.ref bo), some (V.ref ha), some (V.ref fl), none, none, none, none, none, none]) (fun nx hk => ?_) ?_
    · walk_at "RD"
      have w10 := g1.w0
      have w11 := g1.w1
      have h10 := g1.h0
      have h11 := g1.h1
      have h21 := g2.h1
      have e0 : atI ((linesOf w1 h1 sg1).map V.str) 0 = some (V.str (lineOf w1 sg1 0)) := atI_nat (j := 0) (by rw [List.getElem?_map, lines_get (by omega)]; rfl)
      have eL := line_len g1 (show 0 < h1 by omega)
      have ew : ((w1 : Int) - 1) = ((w1 - 1 : Nat) : Int) := by omega
      have l1' : (Str.ofString "#").length = 1 := by decide +kernel
      have lt : (Str.ofString "~").length = 1 := by decide +kernel
      have lm : (Txt.mul (Str.ofString "#") ((w1 - 1 : Nat) : Int)).length = w1 - 1 := by
        rw [← str_len_list, mul_list, List.length_flatten]
        have l7' : (Str.ofString "#").cps.size = 1 := l1'
        simp [str_len_list, l7']
      refine ⟨_, SqL.of (s3 _ _ (s2 _ _ hbo)), _, rfl, _, rfl, _, SqL.of (s3 _ _ (s2 _ _ hl1)), _, e0, _, rfl, by rw [eL]; omega, ?_⟩
      rw [eL, ew]
      refine ⟨mul_ok _ _ (by omega) (by rw [l1', Nat.one_mul]; omega), by rw [lm, lt]; omega, _, SqL.of hha', _, rfl, _, rfl, _, hc1', 0, ?_, hk _ _ ⟨_, _, fun b o hb b1 b2 => by rw [upd_ne b1]; exact hb, ?_, ?_, upd_same, by rw [upd_ne n12.symm]; exact hc2', rfl⟩⟩
      · unfold ixN
        rw [if_pos (by decide), if_pos (by rw [List.length_map, lines_len]; omega)]
        rfl
      · rw [List.length_set, List.length_map, lines_len]; omega
      · rw [List.length_map, lines_len]; omega
    rintro σ H5 ⟨X1, X2, fr5, x15, x25, hx1, hx2, rfl⟩
    refine tSeq_cut (fun σ H' => ∃ X1 X2, (∀ b o, H4 b = some o → b ≠ c1 → b ≠ c2 → H' b = some o) ∧ X1.length ≤ 30 ∧ X2.length ≤ 30 ∧ H' c1 = some (.lst X1) ∧ H' c2 = some (.lst X2) ∧ σ = [some (V.ref a), some (V.ref bo), some (V.ref ha), some (V.ref fl), none, none, none, none, none, none]) (fun nx hk => ?_) ?_
    · walk_at "RD"
      refine ⟨_, SqL.of (fr5 _ _ hha' nh1 nh2), _, rfl, .inl ⟨rfl, _, SqL.of hx1⟩, _, rfl, _, hx1, by omega, hk _ _ ⟨_, X2, fun b o hb b1 b2 => by rw [upd_ne b1]; exact fr5 b o hb b1 b2, by simp; omega, by omega, upd_same, by rw [upd_ne n12.symm]; exact hx2, rfl⟩⟩
    rintro σ H6 ⟨Y1, Y2, fr6, y16, y26, hy1, hy2, rfl⟩
    refine tSeq_cut (fun σ H' => (∀ b o, H4 b = some o → b ≠ c1 → b ≠ c2 → H' b = some o) ∧ σ = [some (V.ref a), some (V.ref bo), some (V.ref ha), some (V.ref fl), none, none, none, none, none, none]) (fun nx hk => ?_) ?_
    · walk_at "RD"
      refine ⟨_, SqL.of (fr6 _ _ hha' nh1 nh2), _, rfl, .inl ⟨rfl, _, SqL.of hy2⟩, _, rfl, _, hy2, by omega, hk _ _ ⟨fun b o hb b1 b2 => by rw [upd_ne b2]; exact fr6 b o hb b1 b2, rfl⟩⟩
    rintro σ H7 ⟨fr, rfl⟩
    have old : ∀ b o, H1 b = some o → H7 b = some o := fun b o hb => fr b o (s3 _ _ (s2 _ _ hb)) (ne_of_none hb nc1) (ne_of_none hb nc2)
    have hbo7 := old _ _ hbo
    have hl17 : LinesAt H7 l1 w1 h1 sg1 := old _ _ hl1
    have hl27 : LinesAt H7 l2 w2 h2 sg2 := old _ _ hl2
    have hS7 : SqL K H7 a (ns.map V.int) := Same.seq (fun b o hb => old b o hb) hS1
    have hfl7 := fr _ _ hfl (fun z => by rw [z, hc1] at nfl; cases nfl) (fun z => by rw [z, hc2] at nfl; cases nfl)
    have nm1' : m1 ≠ c1 ∧ m1 ≠ c2 := ⟨fun z => (by rw [z, hc1] at nm1; cases nm1), fun z => (by rw [z, hc2] at nm1; cases nm1)⟩
    have nm2' : m2 ≠ c1 ∧ m2 ≠ c2 := ⟨fun z => (by rw [z, hc1] at nm2; cases nm2), fun z => (by rw [z, hc2] at nm2; cases nm2)⟩
    have F17 : FloorAt ad.C_Floor H7 p1 w1 h1 sg1 := ⟨⟨d1, m1, fr _ _ hp1 (ne_of hp1 hc1' (by intro z; cases z)) (ne_of hp1 hc2' (by intro z; cases z)), fr _ _ hm1 nm1'.1 nm1'.2⟩⟩
    have F27 : FloorAt ad.C_Floor H7 p2 w2 h2 sg2 := ⟨⟨d2, m2, fr _ _ hp2 (ne_of hp2 hc1' (by intro z; cases z)) (ne_of hp2 hc2' (by intro z; cases z)), fr _ _ hm2 nm2'.1 nm2'.2⟩⟩
    -- what is kept
    refine tSeq_cut (fun σ H' => ∃ k, H7 k = none ∧ H' = upd H7 k (.lst []) ∧ σ = [some (V.ref a), some (V.ref bo), some (V.ref ha), some (V.ref fl), some (V.ref k), none, none, none, none, none]) (fun nx hk => ?_) ?_
    · walk_at "RD"
      exact ⟨Nat.zero_le _, fun k nk => hk _ _ ⟨k, nk, rfl, rfl⟩⟩
    rintro σ H8 ⟨k, nk, rfl, rfl⟩
    have up : ∀ {H' : Hp} {b : Addr} {o : HO}, SameB k (upd H7 k (.lst [])) H' → H7 b = some o → H' b = some o := fun {H' b o} sB hb => sB b o (by rw [upd_ne (ne_of_none hb nk)]; exact hb) (ne_of_none hb nk)
    have upS : ∀ {H' : Hp}, SameB k (upd H7 k (.lst [])) H' → Same H7 H' := fun {H'} sB b o hb => up sB hb
    have step : ∀ {H' : Hp} {n : Nat} {c : Int} {i : Int} {QQ : VK}, SameB k (upd H7 k (.lst [])) H' → KeptOk H' k n → n ≤ 2000 → (i = 0 ∨ i = 1) → (∀ H'', SameB k H' H'' → KeptOk H'' k (n + 110) → QQ (.bl true) H'') →
        ∃ x, atI [V.ref p1, V.ref p2] i = some x ∧ ∃ y, atI [V.ref l1, V.ref l2] i = some y ∧ spAskW ad.C_Floor [x, y, V.ref k, .int c] H' QQ E0 := fun {H' n c i QQ} sB hK hn hi hQ => by
      rcases hi with rfl | rfl
      · exact ⟨_, rfl, _, rfl, p1, l1, k, c, w1, h1, sg1, n, rfl, F17.same (upS sB), up sB hl17, g1, hK, hn, hQ⟩
      · exact ⟨_, rfl, _, rfl, p2, l2, k, c, w2, h2, sg2, n, rfl, F27.same (upS sB), up sB hl27, g2, hK, hn, hQ⟩
    refine tSeq_cut (fun σ H' => ∃ x1 x2 x3 x4 x5, KeptOk H' k 1760 ∧ σ = [some (V.ref a), some (V.ref bo), some (V.ref ha), some (V.ref fl), some (V.ref k), x1, x2, x3, x4, x5]) (fun nx hk => ?_) ?_
    · walk_at "RD"
      refine ⟨by decide, by decide, for_range (n := 2) (fun i σ H' => ∃ x1 x2 x3 x4 x5, SameB k (upd H7 k (.lst [])) H' ∧ KeptOk H' k (880 * i) ∧ σ = [some (V.ref a), some (V.ref bo), some (V.ref ha), some (V.ref fl), some (V.ref k), x1, x2, x3, x4, x5]) ⟨none, none, none, none, none, fun _ _ e _ => e, ⟨[], Nat.zero_le _, upd_same, fun t ht => absurd ht (by simp)⟩, rfl⟩ ?_ ?_⟩
      · rintro i σ H' hi ⟨x1, x2, x3, x4, x5, sB, hK, rfl⟩
        walk_at "RD"
        refine ⟨_, _, _, rfl, Same.seq (upS sB) hS7, hl, by omega, by omega, fun r r0 r1 => ⟨by decide, by decide, for_range (n := 4) (fun j σ H' => ∃ x3 x4 x5, SameB k (upd H7 k (.lst [])) H' ∧ KeptOk H' k (880 * i + 220 * j) ∧ σ = [some (V.ref a), some (V.ref bo), some (V.ref ha), some (V.ref fl), some (V.ref k), some (V.int (0 + (i : Int))), some (V.int r), x3, x4, x5]) ⟨x3, x4, x5, sB, hK, rfl⟩ ?_ ?_⟩⟩
        · rintro j σ H2' hj ⟨x3, x4, x5, sB, hK, rfl⟩
          walk_at "RD"
          have hr8 : r / 8 % 2 = 0 ∨ r / 8 % 2 = 1 := by omega
          refine ⟨⟨by decide, by decide⟩, by decide, .inl ⟨by decide, by decide⟩, .inl ⟨by omega, by omega⟩, by decide, ⟨by decide, by decide⟩, by decide, ⟨by decide, by decide⟩, by decide, by omega, fun q nq => ?_⟩
          have sq := same_new (o := HO.tup [V.int (r / 8 % 2), V.int (1 - r / 8 % 2)]) nq
          have nqk : q ≠ k := fun z => by
            obtain ⟨_, _, hkk, _⟩ := hK
            rw [z, hkk] at nq
            cases nq
          refine ⟨⟨_, SqT.of upd_same⟩, for_tup (K := K) (a := q) (xs := [V.int (r / 8 % 2), V.int (1 - r / 8 % 2)]) (fun m σ H' => ∃ x9, SameB k (upd H7 k (.lst [])) H' ∧ KeptOk H' k (880 * i + 220 * j + 110 * m) ∧ H' q = some (.tup [V.int (r / 8 % 2), V.int (1 - r / 8 % 2)]) ∧ σ = [some (V.ref a), some (V.ref bo), some (V.ref ha), some (V.ref fl), some (V.ref k), some (V.int (0 + (i : Int))), some (V.int r), some (V.int (0 + (j : Int))), some (V.int ((r + (0 + (j : Int)) * (1 + 2 * (r / 4 % 2))) % 4)), x9])
            ⟨x5, fun b o hb nb => sq _ _ (sB b o hb nb), hK.same sq, upd_same, rfl⟩ (fun m σ H' _ ⟨_, _, _, h, _⟩ => SqT.of h) ?_ ?_⟩
          · rintro m y σ H3' hm ⟨x9, sB', hK', hq', rfl⟩
            obtain ⟨z, rfl, hz01, hm2⟩ : ∃ z : Int, y = V.int z ∧ (z = 0 ∨ z = 1) ∧ m < 2 := by
              match m, hm with
              | 0, hm => cases hm; exact ⟨_, rfl, hr8, by decide⟩
              | 1, hm => cases hm; exact ⟨_, rfl, by omega, by decide⟩
            walk_at "RD"
            obtain ⟨u, hu, v, hv, hs⟩ := step (c := (r + (0 + (j : Int)) * (1 + 2 * (r / 4 % 2))) % 4) (i := z) (QQ := fun x H1 => ∃ c, x = V.bl c ∧ if c = false then Q (V.bl false) H1 else SameB k (upd H7 k (HO.lst [])) H1 ∧ KeptOk H1 k (880 * i + 220 * j + 110 * (m + 1)) ∧ H1 q = some (HO.tup [V.int (r / 8 % 2), V.int (1 - r / 8 % 2)]) ∧ ∃ x, some (V.int z) = x) sB' hK' (by omega) hz01 (fun H4' s4 hK4 => ⟨true, rfl, by
              rw [if_neg (by decide)]
              exact ⟨sB'.trans s4, by rw [Nat.mul_add, ← Nat.add_assoc]; exact hK4, s4 _ _ hq' nqk, _, rfl⟩⟩)
            exact ⟨_, SqL.of (up sB' hfl7), _, hu, _, SqL.of (up sB' hbo7), _, hv, hs⟩
          · rintro σ H3' ⟨x9, sB', hK', _, rfl⟩
            exact ⟨sB', hK', _, _, _, rfl⟩
        · rintro σ H2' ⟨x3, x4, x5, sB, hK, rfl⟩
          exact ⟨sB, by rw [show 880 * (i + 1) = 880 * i + 220 * 4 by omega]; exact hK, _, _, _, _, _, rfl⟩
      · rintro σ H' ⟨x1, x2, x3, x4, x5, sB, hK, rfl⟩
        exact hk _ _ ⟨_, _, _, _, _, hK, rfl⟩
    rintro σ H9 ⟨x1, x2, x3, x4, x5, hK9, rfl⟩
    obtain ⟨ts, tl, hk9, all9⟩ := hK9
    walk_at "RD"
    refine ⟨⟨_, SqL.of hk9⟩, comp_pure (src_list (SqL.of hk9)) (fun _ => false) (fun v => v) (fun y hy Q h => ?_) (fun y hy z Q h => by cases z) (by rw [List.length_map]; omega) ?_⟩
    · obtain ⟨t, ht, rfl⟩ := List.mem_map.mp hy
      obtain ⟨x, y, xs, e1, e2, e3, _, _, hx⟩ := all9 t ht
      have hs := shaped_ints xs
      walk_at "RD"
      refine ⟨_, SqT.of e1, _, rfl, _, SqT.of e1, _, rfl, _, den_ints (SqL.of e2), _, den_ints (SqL.of e3), hs, hs, ?_⟩
      rw [eqv_self _ (SeqAt.canLay_of_shaped hs)]
      exact h
    · intro D hD
      have e : (((ts.map V.ref).filter fun _ => false).map fun v => v) = ([] : List Int).map V.int := by
        rw [List.filter_eq_nil_iff.mpr (fun _ _ => by decide)]
        rfl
      rw [e]
      refine ⟨Nat.zero_le _, fun p hp => ?_⟩
      have n : D ≠ p := fun z => by rw [← z, upd_same] at hp; cases hp
      exact ⟨_, den_ints (ns := []) (SqL.of (by rw [upd_ne n]; exact upd_same)), _, .lst (SqL.of upd_same) .nil, rfl, rfl, hq _⟩
end
theorem all_mk {l : PySem.W.OpenLaw} {w : World} {K : PySem.W.Frag} {h : Heap} {mg : Str → Option Value} {fa : Addr} (X : K.In h) (G : h.Ns mainGlobals mg) (hfa : mg "law" = some (.ref fa))
    {C_Floor : Addr}
    {f_is_whole : Addr} {od_is_whole an_is_whole : Option Addr} {sl_is_whole : Array (Option Value)} {oc_is_whole kV_is_whole dc_is_whole pm_is_whole cd_is_whole ct_is_whole : Value}
    {f_is_among : Addr} {od_is_among an_is_among : Option Addr} {sl_is_among : Array (Option Value)} {oc_is_among kV_is_among dc_is_among pm_is_among cd_is_among ct_is_among : Value}
    {f_check_row : Addr} {od_check_row an_check_row : Option Addr} {sl_check_row : Array (Option Value)} {oc_check_row kV_check_row dc_check_row pm_check_row cd_check_row ct_check_row : Value}
    {f_check_floor : Addr} {od_check_floor an_check_floor : Option Addr} {sl_check_floor : Array (Option Value)} {oc_check_floor kV_check_floor dc_check_floor pm_check_floor cd_check_floor ct_check_floor : Value}
    {f_Floor_init : Addr} {od_Floor_init an_Floor_init : Option Addr} {sl_Floor_init : Array (Option Value)} {oc_Floor_init kV_Floor_init dc_Floor_init pm_Floor_init cd_Floor_init ct_Floor_init : Value}
    {f_Floor_has : Addr} {od_Floor_has an_Floor_has : Option Addr} {sl_Floor_has : Array (Option Value)} {oc_Floor_has kV_Floor_has dc_Floor_has pm_Floor_has cd_Floor_has ct_Floor_has : Value}
    {f_Floor_sign : Addr} {od_Floor_sign an_Floor_sign : Option Addr} {sl_Floor_sign : Array (Option Value)} {oc_Floor_sign kV_Floor_sign dc_Floor_sign pm_Floor_sign cd_Floor_sign ct_Floor_sign : Value}
    {f_Floor_column : Addr} {od_Floor_column an_Floor_column : Option Addr} {sl_Floor_column : Array (Option Value)} {oc_Floor_column kV_Floor_column dc_Floor_column pm_Floor_column cd_Floor_column ct_Floor_column : Value}
    {f_Floor_row : Addr} {od_Floor_row an_Floor_row : Option Addr} {sl_Floor_row : Array (Option Value)} {oc_Floor_row kV_Floor_row dc_Floor_row pm_Floor_row cd_Floor_row ct_Floor_row : Value}
    {f_Floor_cells : Addr} {od_Floor_cells an_Floor_cells : Option Addr} {sl_Floor_cells : Array (Option Value)} {oc_Floor_cells kV_Floor_cells dc_Floor_cells pm_Floor_cells cd_Floor_cells ct_Floor_cells : Value}
    {f_Floor_chargers : Addr} {od_Floor_chargers an_Floor_chargers : Option Addr} {sl_Floor_chargers : Array (Option Value)} {oc_Floor_chargers kV_Floor_chargers dc_Floor_chargers pm_Floor_chargers cd_Floor_chargers ct_Floor_chargers : Value}
    {f_Floor_beside : Addr} {od_Floor_beside an_Floor_beside : Option Addr} {sl_Floor_beside : Array (Option Value)} {oc_Floor_beside kV_Floor_beside dc_Floor_beside pm_Floor_beside cd_Floor_beside ct_Floor_beside : Value}
    {f_Lat : Addr} {od_Lat an_Lat : Option Addr} {sl_Lat : Array (Option Value)} {oc_Lat kV_Lat dc_Lat pm_Lat cd_Lat ct_Lat : Value}
    {f_Lmixed : Addr} {od_Lmixed an_Lmixed : Option Addr} {sl_Lmixed : Array (Option Value)} {oc_Lmixed kV_Lmixed dc_Lmixed pm_Lmixed cd_Lmixed ct_Lmixed : Value}
    {f_Lwhole : Addr} {od_Lwhole an_Lwhole : Option Addr} {sl_Lwhole : Array (Option Value)} {oc_Lwhole kV_Lwhole dc_Lwhole pm_Lwhole cd_Lwhole ct_Lwhole : Value}
    {f_Llines : Addr} {od_Llines an_Llines : Option Addr} {sl_Llines : Array (Option Value)} {oc_Llines kV_Llines dc_Llines pm_Llines cd_Llines ct_Llines : Value}
    {f_Lsign : Addr} {od_Lsign an_Lsign : Option Addr} {sl_Lsign : Array (Option Value)} {oc_Lsign kV_Lsign dc_Lsign pm_Lsign cd_Lsign ct_Lsign : Value}
    {f_Lcells : Addr} {od_Lcells an_Lcells : Option Addr} {sl_Lcells : Array (Option Value)} {oc_Lcells kV_Lcells dc_Lcells pm_Lcells cd_Lcells ct_Lcells : Value}
    {f_Lbeside : Addr} {od_Lbeside an_Lbeside : Option Addr} {sl_Lbeside : Array (Option Value)} {oc_Lbeside kV_Lbeside dc_Lbeside pm_Lbeside cd_Lbeside ct_Lbeside : Value}
    {f_Lsame : Addr} {od_Lsame an_Lsame : Option Addr} {sl_Lsame : Array (Option Value)} {oc_Lsame kV_Lsame dc_Lsame pm_Lsame cd_Lsame ct_Lsame : Value}
    {f_Lfields : Addr} {od_Lfields an_Lfields : Option Addr} {sl_Lfields : Array (Option Value)} {oc_Lfields kV_Lfields dc_Lfields pm_Lfields cd_Lfields ct_Lfields : Value}
    {f_Llists : Addr} {od_Llists an_Llists : Option Addr} {sl_Llists : Array (Option Value)} {oc_Llists kV_Llists dc_Llists pm_Llists cd_Llists ct_Llists : Value}
    {f_Lthings : Addr} {od_Lthings an_Lthings : Option Addr} {sl_Lthings : Array (Option Value)} {oc_Lthings kV_Lthings dc_Lthings pm_Lthings cd_Lthings ct_Lthings : Value}
    {f_Leach : Addr} {od_Leach an_Leach : Option Addr} {sl_Leach : Array (Option Value)} {oc_Leach kV_Leach dc_Leach pm_Leach cd_Leach ct_Leach : Value}
    {f_Lasked : Addr} {od_Lasked an_Lasked : Option Addr} {sl_Lasked : Array (Option Value)} {oc_Lasked kV_Lasked dc_Lasked pm_Lasked cd_Lasked ct_Lasked : Value}
    {f_law : Addr} {od_law an_law : Option Addr} {sl_law : Array (Option Value)} {oc_law kV_law dc_law pm_law cd_law ct_law : Value}
    {t_WALL : Tok}
    {t_CHARGER : Tok}
    {t_SIGNS : Tok}
    {t_MOST_ROWS : Tok}
    {t_MOST_SIGNS : Tok}
    (aC_Floor : PySem.W.nsIn K mainGlobals "Floor" = some (some (.ref C_Floor)))
    (pg_Floor : PySem.W.plainGet K C_Floor Str.empty = true) (hd_Floor : PySem.W.hasDictIn K C_Floor = true) (po_Floor : PySem.W.plainOver K C_Floor = true) (sa_Floor : PySem.W.findIn K (.ref C_Floor) "__setattr__" = some (some (.builtin "object.__setattr__"))) (kc_Floor : PySem.W.keepIn K (.ref C_Floor) = true)
    (mk_Floor : PySem.W.makesIn K C_Floor = true)
    (n_Floor_wide : PySem.W.findIn K (.ref C_Floor) "wide" = some none)
    (n_Floor_high : PySem.W.findIn K (.ref C_Floor) "high" = some none)
    (n_Floor_lines : PySem.W.findIn K (.ref C_Floor) "lines" = some none)
    (n_Floor_signs : PySem.W.findIn K (.ref C_Floor) "signs" = some none)
    (a_is_whole : PySem.W.nsIn K mainGlobals "is_whole" = some (some (.ref f_is_whole)))
    (l_is_whole : K.lookup f_is_whole = some ⟨oc_is_whole, od_is_whole, .func (PySem.W.fnOf "is_whole" "is_whole" (defArgs s_is_whole) (defBody s_is_whole) (defScope s_is_whole) .none kV_is_whole dc_is_whole pm_is_whole an_is_whole cd_is_whole ct_is_whole), sl_is_whole⟩) (c_is_whole : PySem.W.codeIn K cd_is_whole "is_whole" = true) (k_is_whole : PySem.W.keepIn K (.ref f_is_whole) = true)
    (a_is_among : PySem.W.nsIn K mainGlobals "is_among" = some (some (.ref f_is_among)))
    (l_is_among : K.lookup f_is_among = some ⟨oc_is_among, od_is_among, .func (PySem.W.fnOf "is_among" "is_among" (defArgs s_is_among) (defBody s_is_among) (defScope s_is_among) .none kV_is_among dc_is_among pm_is_among an_is_among cd_is_among ct_is_among), sl_is_among⟩) (c_is_among : PySem.W.codeIn K cd_is_among "is_among" = true) (k_is_among : PySem.W.keepIn K (.ref f_is_among) = true)
    (a_check_row : PySem.W.nsIn K mainGlobals "check_row" = some (some (.ref f_check_row)))
    (l_check_row : K.lookup f_check_row = some ⟨oc_check_row, od_check_row, .func (PySem.W.fnOf "check_row" "check_row" (defArgs s_check_row) (defBody s_check_row) (defScope s_check_row) .none kV_check_row dc_check_row pm_check_row an_check_row cd_check_row ct_check_row), sl_check_row⟩) (c_check_row : PySem.W.codeIn K cd_check_row "check_row" = true) (k_check_row : PySem.W.keepIn K (.ref f_check_row) = true)
    (a_check_floor : PySem.W.nsIn K mainGlobals "check_floor" = some (some (.ref f_check_floor)))
    (l_check_floor : K.lookup f_check_floor = some ⟨oc_check_floor, od_check_floor, .func (PySem.W.fnOf "check_floor" "check_floor" (defArgs s_check_floor) (defBody s_check_floor) (defScope s_check_floor) .none kV_check_floor dc_check_floor pm_check_floor an_check_floor cd_check_floor ct_check_floor), sl_check_floor⟩) (c_check_floor : PySem.W.codeIn K cd_check_floor "check_floor" = true) (k_check_floor : PySem.W.keepIn K (.ref f_check_floor) = true)
    (a_Floor_init : PySem.W.findIn K (.ref C_Floor) "__init__" = some (some (.ref f_Floor_init))) (i_Floor_init : PySem.W.isFn K (.ref f_Floor_init) = true)
    (l_Floor_init : K.lookup f_Floor_init = some ⟨oc_Floor_init, od_Floor_init, .func (PySem.W.fnOf "__init__" "Floor.__init__" (defArgs s_Floor_init) (defBody s_Floor_init) (defScope s_Floor_init) .none kV_Floor_init dc_Floor_init pm_Floor_init an_Floor_init cd_Floor_init ct_Floor_init), sl_Floor_init⟩) (c_Floor_init : PySem.W.codeIn K cd_Floor_init "Floor.__init__" = true) (k_Floor_init : PySem.W.keepIn K (.ref f_Floor_init) = true)
    (a_Floor_has : PySem.W.findIn K (.ref C_Floor) "has" = some (some (.ref f_Floor_has))) (i_Floor_has : PySem.W.isFn K (.ref f_Floor_has) = true)
    (l_Floor_has : K.lookup f_Floor_has = some ⟨oc_Floor_has, od_Floor_has, .func (PySem.W.fnOf "has" "Floor.has" (defArgs s_Floor_has) (defBody s_Floor_has) (defScope s_Floor_has) .none kV_Floor_has dc_Floor_has pm_Floor_has an_Floor_has cd_Floor_has ct_Floor_has), sl_Floor_has⟩) (c_Floor_has : PySem.W.codeIn K cd_Floor_has "Floor.has" = true) (k_Floor_has : PySem.W.keepIn K (.ref f_Floor_has) = true)
    (a_Floor_sign : PySem.W.findIn K (.ref C_Floor) "sign" = some (some (.ref f_Floor_sign))) (i_Floor_sign : PySem.W.isFn K (.ref f_Floor_sign) = true)
    (l_Floor_sign : K.lookup f_Floor_sign = some ⟨oc_Floor_sign, od_Floor_sign, .func (PySem.W.fnOf "sign" "Floor.sign" (defArgs s_Floor_sign) (defBody s_Floor_sign) (defScope s_Floor_sign) .none kV_Floor_sign dc_Floor_sign pm_Floor_sign an_Floor_sign cd_Floor_sign ct_Floor_sign), sl_Floor_sign⟩) (c_Floor_sign : PySem.W.codeIn K cd_Floor_sign "Floor.sign" = true) (k_Floor_sign : PySem.W.keepIn K (.ref f_Floor_sign) = true)
    (a_Floor_column : PySem.W.findIn K (.ref C_Floor) "column" = some (some (.ref f_Floor_column))) (i_Floor_column : PySem.W.isFn K (.ref f_Floor_column) = true)
    (l_Floor_column : K.lookup f_Floor_column = some ⟨oc_Floor_column, od_Floor_column, .func (PySem.W.fnOf "column" "Floor.column" (defArgs s_Floor_column) (defBody s_Floor_column) (defScope s_Floor_column) .none kV_Floor_column dc_Floor_column pm_Floor_column an_Floor_column cd_Floor_column ct_Floor_column), sl_Floor_column⟩) (c_Floor_column : PySem.W.codeIn K cd_Floor_column "Floor.column" = true) (k_Floor_column : PySem.W.keepIn K (.ref f_Floor_column) = true)
    (a_Floor_row : PySem.W.findIn K (.ref C_Floor) "row" = some (some (.ref f_Floor_row))) (i_Floor_row : PySem.W.isFn K (.ref f_Floor_row) = true)
    (l_Floor_row : K.lookup f_Floor_row = some ⟨oc_Floor_row, od_Floor_row, .func (PySem.W.fnOf "row" "Floor.row" (defArgs s_Floor_row) (defBody s_Floor_row) (defScope s_Floor_row) .none kV_Floor_row dc_Floor_row pm_Floor_row an_Floor_row cd_Floor_row ct_Floor_row), sl_Floor_row⟩) (c_Floor_row : PySem.W.codeIn K cd_Floor_row "Floor.row" = true) (k_Floor_row : PySem.W.keepIn K (.ref f_Floor_row) = true)
    (a_Floor_cells : PySem.W.findIn K (.ref C_Floor) "cells" = some (some (.ref f_Floor_cells))) (i_Floor_cells : PySem.W.isFn K (.ref f_Floor_cells) = true)
    (l_Floor_cells : K.lookup f_Floor_cells = some ⟨oc_Floor_cells, od_Floor_cells, .func (PySem.W.fnOf "cells" "Floor.cells" (defArgs s_Floor_cells) (defBody s_Floor_cells) (defScope s_Floor_cells) .none kV_Floor_cells dc_Floor_cells pm_Floor_cells an_Floor_cells cd_Floor_cells ct_Floor_cells), sl_Floor_cells⟩) (c_Floor_cells : PySem.W.codeIn K cd_Floor_cells "Floor.cells" = true) (k_Floor_cells : PySem.W.keepIn K (.ref f_Floor_cells) = true)
    (a_Floor_chargers : PySem.W.findIn K (.ref C_Floor) "chargers" = some (some (.ref f_Floor_chargers))) (i_Floor_chargers : PySem.W.isFn K (.ref f_Floor_chargers) = true)
    (l_Floor_chargers : K.lookup f_Floor_chargers = some ⟨oc_Floor_chargers, od_Floor_chargers, .func (PySem.W.fnOf "chargers" "Floor.chargers" (defArgs s_Floor_chargers) (defBody s_Floor_chargers) (defScope s_Floor_chargers) .none kV_Floor_chargers dc_Floor_chargers pm_Floor_chargers an_Floor_chargers cd_Floor_chargers ct_Floor_chargers), sl_Floor_chargers⟩) (c_Floor_chargers : PySem.W.codeIn K cd_Floor_chargers "Floor.chargers" = true) (k_Floor_chargers : PySem.W.keepIn K (.ref f_Floor_chargers) = true)
    (a_Floor_beside : PySem.W.findIn K (.ref C_Floor) "beside" = some (some (.ref f_Floor_beside))) (i_Floor_beside : PySem.W.isFn K (.ref f_Floor_beside) = true)
    (l_Floor_beside : K.lookup f_Floor_beside = some ⟨oc_Floor_beside, od_Floor_beside, .func (PySem.W.fnOf "beside" "Floor.beside" (defArgs s_Floor_beside) (defBody s_Floor_beside) (defScope s_Floor_beside) .none kV_Floor_beside dc_Floor_beside pm_Floor_beside an_Floor_beside cd_Floor_beside ct_Floor_beside), sl_Floor_beside⟩) (c_Floor_beside : PySem.W.codeIn K cd_Floor_beside "Floor.beside" = true) (k_Floor_beside : PySem.W.keepIn K (.ref f_Floor_beside) = true)
    (a_Lat : PySem.W.nsIn K mainGlobals "_law_at" = some (some (.ref f_Lat)))
    (l_Lat : K.lookup f_Lat = some ⟨oc_Lat, od_Lat, .func (PySem.W.fnOf "_law_at" "_law_at" (defArgs s_Lat) (defBody s_Lat) (defScope s_Lat) .none kV_Lat dc_Lat pm_Lat an_Lat cd_Lat ct_Lat), sl_Lat⟩) (c_Lat : PySem.W.codeIn K cd_Lat "_law_at" = true) (k_Lat : PySem.W.keepIn K (.ref f_Lat) = true)
    (a_Lmixed : PySem.W.nsIn K mainGlobals "_law_mixed" = some (some (.ref f_Lmixed)))
    (l_Lmixed : K.lookup f_Lmixed = some ⟨oc_Lmixed, od_Lmixed, .func (PySem.W.fnOf "_law_mixed" "_law_mixed" (defArgs s_Lmixed) (defBody s_Lmixed) (defScope s_Lmixed) .none kV_Lmixed dc_Lmixed pm_Lmixed an_Lmixed cd_Lmixed ct_Lmixed), sl_Lmixed⟩) (c_Lmixed : PySem.W.codeIn K cd_Lmixed "_law_mixed" = true) (k_Lmixed : PySem.W.keepIn K (.ref f_Lmixed) = true)
    (a_Lwhole : PySem.W.nsIn K mainGlobals "_law_whole" = some (some (.ref f_Lwhole)))
    (l_Lwhole : K.lookup f_Lwhole = some ⟨oc_Lwhole, od_Lwhole, .func (PySem.W.fnOf "_law_whole" "_law_whole" (defArgs s_Lwhole) (defBody s_Lwhole) (defScope s_Lwhole) .none kV_Lwhole dc_Lwhole pm_Lwhole an_Lwhole cd_Lwhole ct_Lwhole), sl_Lwhole⟩) (c_Lwhole : PySem.W.codeIn K cd_Lwhole "_law_whole" = true) (k_Lwhole : PySem.W.keepIn K (.ref f_Lwhole) = true)
    (a_Llines : PySem.W.nsIn K mainGlobals "_law_lines" = some (some (.ref f_Llines)))
    (l_Llines : K.lookup f_Llines = some ⟨oc_Llines, od_Llines, .func (PySem.W.fnOf "_law_lines" "_law_lines" (defArgs s_Llines) (defBody s_Llines) (defScope s_Llines) .none kV_Llines dc_Llines pm_Llines an_Llines cd_Llines ct_Llines), sl_Llines⟩) (c_Llines : PySem.W.codeIn K cd_Llines "_law_lines" = true) (k_Llines : PySem.W.keepIn K (.ref f_Llines) = true)
    (a_Lsign : PySem.W.nsIn K mainGlobals "_law_sign" = some (some (.ref f_Lsign)))
    (l_Lsign : K.lookup f_Lsign = some ⟨oc_Lsign, od_Lsign, .func (PySem.W.fnOf "_law_sign" "_law_sign" (defArgs s_Lsign) (defBody s_Lsign) (defScope s_Lsign) .none kV_Lsign dc_Lsign pm_Lsign an_Lsign cd_Lsign ct_Lsign), sl_Lsign⟩) (c_Lsign : PySem.W.codeIn K cd_Lsign "_law_sign" = true) (k_Lsign : PySem.W.keepIn K (.ref f_Lsign) = true)
    (a_Lcells : PySem.W.nsIn K mainGlobals "_law_cells" = some (some (.ref f_Lcells)))
    (l_Lcells : K.lookup f_Lcells = some ⟨oc_Lcells, od_Lcells, .func (PySem.W.fnOf "_law_cells" "_law_cells" (defArgs s_Lcells) (defBody s_Lcells) (defScope s_Lcells) .none kV_Lcells dc_Lcells pm_Lcells an_Lcells cd_Lcells ct_Lcells), sl_Lcells⟩) (c_Lcells : PySem.W.codeIn K cd_Lcells "_law_cells" = true) (k_Lcells : PySem.W.keepIn K (.ref f_Lcells) = true)
    (a_Lbeside : PySem.W.nsIn K mainGlobals "_law_beside" = some (some (.ref f_Lbeside)))
    (l_Lbeside : K.lookup f_Lbeside = some ⟨oc_Lbeside, od_Lbeside, .func (PySem.W.fnOf "_law_beside" "_law_beside" (defArgs s_Lbeside) (defBody s_Lbeside) (defScope s_Lbeside) .none kV_Lbeside dc_Lbeside pm_Lbeside an_Lbeside cd_Lbeside ct_Lbeside), sl_Lbeside⟩) (c_Lbeside : PySem.W.codeIn K cd_Lbeside "_law_beside" = true) (k_Lbeside : PySem.W.keepIn K (.ref f_Lbeside) = true)
    (a_Lsame : PySem.W.nsIn K mainGlobals "_law_same" = some (some (.ref f_Lsame)))
    (l_Lsame : K.lookup f_Lsame = some ⟨oc_Lsame, od_Lsame, .func (PySem.W.fnOf "_law_same" "_law_same" (defArgs s_Lsame) (defBody s_Lsame) (defScope s_Lsame) .none kV_Lsame dc_Lsame pm_Lsame an_Lsame cd_Lsame ct_Lsame), sl_Lsame⟩) (c_Lsame : PySem.W.codeIn K cd_Lsame "_law_same" = true) (k_Lsame : PySem.W.keepIn K (.ref f_Lsame) = true)
    (a_Lfields : PySem.W.nsIn K mainGlobals "_law_fields" = some (some (.ref f_Lfields)))
    (l_Lfields : K.lookup f_Lfields = some ⟨oc_Lfields, od_Lfields, .func (PySem.W.fnOf "_law_fields" "_law_fields" (defArgs s_Lfields) (defBody s_Lfields) (defScope s_Lfields) .none kV_Lfields dc_Lfields pm_Lfields an_Lfields cd_Lfields ct_Lfields), sl_Lfields⟩) (c_Lfields : PySem.W.codeIn K cd_Lfields "_law_fields" = true) (k_Lfields : PySem.W.keepIn K (.ref f_Lfields) = true)
    (a_Llists : PySem.W.nsIn K mainGlobals "_law_lists" = some (some (.ref f_Llists)))
    (l_Llists : K.lookup f_Llists = some ⟨oc_Llists, od_Llists, .func (PySem.W.fnOf "_law_lists" "_law_lists" (defArgs s_Llists) (defBody s_Llists) (defScope s_Llists) .none kV_Llists dc_Llists pm_Llists an_Llists cd_Llists ct_Llists), sl_Llists⟩) (c_Llists : PySem.W.codeIn K cd_Llists "_law_lists" = true) (k_Llists : PySem.W.keepIn K (.ref f_Llists) = true)
    (a_Lthings : PySem.W.nsIn K mainGlobals "_law_things" = some (some (.ref f_Lthings)))
    (l_Lthings : K.lookup f_Lthings = some ⟨oc_Lthings, od_Lthings, .func (PySem.W.fnOf "_law_things" "_law_things" (defArgs s_Lthings) (defBody s_Lthings) (defScope s_Lthings) .none kV_Lthings dc_Lthings pm_Lthings an_Lthings cd_Lthings ct_Lthings), sl_Lthings⟩) (c_Lthings : PySem.W.codeIn K cd_Lthings "_law_things" = true) (k_Lthings : PySem.W.keepIn K (.ref f_Lthings) = true)
    (a_Leach : PySem.W.nsIn K mainGlobals "_law_each" = some (some (.ref f_Leach)))
    (l_Leach : K.lookup f_Leach = some ⟨oc_Leach, od_Leach, .func (PySem.W.fnOf "_law_each" "_law_each" (defArgs s_Leach) (defBody s_Leach) (defScope s_Leach) .none kV_Leach dc_Leach pm_Leach an_Leach cd_Leach ct_Leach), sl_Leach⟩) (c_Leach : PySem.W.codeIn K cd_Leach "_law_each" = true) (k_Leach : PySem.W.keepIn K (.ref f_Leach) = true)
    (a_Lasked : PySem.W.nsIn K mainGlobals "_law_asked" = some (some (.ref f_Lasked)))
    (l_Lasked : K.lookup f_Lasked = some ⟨oc_Lasked, od_Lasked, .func (PySem.W.fnOf "_law_asked" "_law_asked" (defArgs s_Lasked) (defBody s_Lasked) (defScope s_Lasked) .none kV_Lasked dc_Lasked pm_Lasked an_Lasked cd_Lasked ct_Lasked), sl_Lasked⟩) (c_Lasked : PySem.W.codeIn K cd_Lasked "_law_asked" = true) (k_Lasked : PySem.W.keepIn K (.ref f_Lasked) = true)
    (a_law : PySem.W.nsIn K mainGlobals "law" = some (some (.ref f_law)))
    (l_law : K.lookup f_law = some ⟨oc_law, od_law, .func (PySem.W.fnOf "law" "law" (defArgs s_law) (defBody s_law) (defScope s_law) .none kV_law dc_law pm_law an_law cd_law ct_law), sl_law⟩) (c_law : PySem.W.codeIn K cd_law "law" = true) (k_law : PySem.W.keepIn K (.ref f_law) = true)
    (z_len : PySem.W.nsIn K mainGlobals "len" = some none)
    (z_range : PySem.W.nsIn K mainGlobals "range" = some none)
    (z_isinstance : PySem.W.nsIn K mainGlobals "isinstance" = some none)
    (z_all : PySem.W.nsIn K mainGlobals "all" = some none)
    (z_int : PySem.W.nsIn K mainGlobals "int" = some none)
    (z_bool : PySem.W.nsIn K mainGlobals "bool" = some none)
    (z_str : PySem.W.nsIn K mainGlobals "str" = some none)
    (z_list : PySem.W.nsIn K mainGlobals "list" = some none)
    (x_WALL : PySem.W.nsIn K mainGlobals "WALL" = some (some (.str (Str.ofString "#") t_WALL)))
    (x_CHARGER : PySem.W.nsIn K mainGlobals "CHARGER" = some (some (.str (Str.ofString "+") t_CHARGER)))
    (x_SIGNS : PySem.W.nsIn K mainGlobals "SIGNS" = some (some (.str (Str.ofString ".#+~|") t_SIGNS)))
    (x_MOST_ROWS : PySem.W.nsIn K mainGlobals "MOST_ROWS" = some (some (.int 10 t_MOST_ROWS)))
    (x_MOST_SIGNS : PySem.W.nsIn K mainGlobals "MOST_SIGNS" = some (some (.int 10 t_MOST_SIGNS)))
    : ∃ fd : FuncData, (∀ (s : Shared) (v : Value), BindsTo s fd ⟨[v], []⟩ [("_law_script", v)]) ∧ ∀ base : Heap, K.In base → base.Ns mainGlobals mg → FnOk l.prog w K mg base CX0 7 fa fd ["_law_script"] (spLaw K) := by
  obtain rfl : f_law = fa := by
    have e := hfa.symm.trans (PySem.W.mg_of X G a_law)
    cases e
    rfl
  have T : Txt K mg ⟨f_is_whole, f_is_among, f_check_row, f_check_floor, f_Floor_init, f_Floor_has, f_Floor_sign, f_Floor_column, f_Floor_row, f_Floor_cells, f_Floor_chargers, f_Floor_beside, f_Lat, f_Lmixed, f_Lwhole, f_Llines, f_Lsign, f_Lcells, f_Lbeside, f_Lsame, f_Lfields, f_Llists, f_Lthings, f_Leach, f_Lasked, f_law, C_Floor⟩ := by
    constructor
    · exact PySem.W.mg_none_of X G z_len
    · exact PySem.W.mg_none_of X G z_range
    · exact PySem.W.mg_none_of X G z_isinstance
    · exact PySem.W.mg_none_of X G z_all
    · exact PySem.W.mg_none_of X G z_int
    · exact PySem.W.mg_none_of X G z_bool
    · exact PySem.W.mg_none_of X G z_str
    · exact PySem.W.mg_none_of X G z_list
    · exact ⟨_, PySem.W.mg_of X G x_WALL, ⟨_, rfl⟩⟩
    · exact ⟨_, PySem.W.mg_of X G x_CHARGER, ⟨_, rfl⟩⟩
    · exact ⟨_, PySem.W.mg_of X G x_SIGNS, ⟨_, rfl⟩⟩
    · exact ⟨_, PySem.W.mg_of X G x_MOST_ROWS, ⟨_, rfl⟩⟩
    · exact ⟨_, PySem.W.mg_of X G x_MOST_SIGNS, ⟨_, rfl⟩⟩
    · exact PySem.W.mg_of X G a_is_whole
    · exact k_is_whole
    · exact PySem.W.mg_of X G a_is_among
    · exact k_is_among
    · exact PySem.W.mg_of X G a_check_row
    · exact k_check_row
    · exact PySem.W.mg_of X G a_check_floor
    · exact k_check_floor
    · exact ⟨mk_Floor, a_Floor_init, i_Floor_init, kc_Floor⟩
    · exact ⟨a_Floor_has, i_Floor_has, k_Floor_has⟩
    · exact ⟨a_Floor_sign, i_Floor_sign, k_Floor_sign⟩
    · exact ⟨a_Floor_column, i_Floor_column, k_Floor_column⟩
    · exact ⟨a_Floor_row, i_Floor_row, k_Floor_row⟩
    · exact ⟨a_Floor_cells, i_Floor_cells, k_Floor_cells⟩
    · exact ⟨a_Floor_chargers, i_Floor_chargers, k_Floor_chargers⟩
    · exact ⟨a_Floor_beside, i_Floor_beside, k_Floor_beside⟩
    · exact PySem.W.mg_of X G a_Lat
    · exact k_Lat
    · exact PySem.W.mg_of X G a_Lmixed
    · exact k_Lmixed
    · exact PySem.W.mg_of X G a_Lwhole
    · exact k_Lwhole
    · exact PySem.W.mg_of X G a_Llines
    · exact k_Llines
    · exact PySem.W.mg_of X G a_Lsign
    · exact k_Lsign
    · exact PySem.W.mg_of X G a_Lcells
    · exact k_Lcells
    · exact PySem.W.mg_of X G a_Lbeside
    · exact k_Lbeside
    · exact PySem.W.mg_of X G a_Lsame
    · exact k_Lsame
    · exact PySem.W.mg_of X G a_Lfields
    · exact k_Lfields
    · exact PySem.W.mg_of X G a_Llists
    · exact k_Llists
    · exact PySem.W.mg_of X G a_Lthings
    · exact k_Lthings
    · exact PySem.W.mg_of X G a_Leach
    · exact k_Leach
    · exact PySem.W.mg_of X G a_Lasked
    · exact k_Lasked
    · exact PySem.W.mg_of X G a_law
    · exact k_law
    · exact PySem.W.mg_of X G aC_Floor
    · exact ⟨pg_Floor, hd_Floor, po_Floor, sa_Floor⟩
    · exact n_Floor_wide
    · exact n_Floor_high
    · exact n_Floor_lines
    · exact n_Floor_signs
  have F_is_whole := fun_mk (st := s_is_whole) l_is_whole c_is_whole k_is_whole
  have B_is_whole := F_is_whole.binds (ps := ["thing"]) fun _ _ _ _ _ _ us hl => match us, hl with | [_], _ => rfl
  have F_is_among := fun_mk (st := s_is_among) l_is_among c_is_among k_is_among
  have B_is_among := F_is_among.binds (ps := ["thing", "least", "most"]) fun _ _ _ _ _ _ us hl => match us, hl with | [_, _, _], _ => rfl
  have F_check_row := fun_mk (st := s_check_row) l_check_row c_check_row k_check_row
  have B_check_row := F_check_row.binds (ps := ["line", "wide"]) fun _ _ _ _ _ _ us hl => match us, hl with | [_, _], _ => rfl
  have F_check_floor := fun_mk (st := s_check_floor) l_check_floor c_check_floor k_check_floor
  have B_check_floor := F_check_floor.binds (ps := ["lines"]) fun _ _ _ _ _ _ us hl => match us, hl with | [_], _ => rfl
  have F_Floor_init := fun_mk (st := s_Floor_init) l_Floor_init c_Floor_init k_Floor_init
  have B_Floor_init := F_Floor_init.binds (ps := ["self", "lines"]) fun _ _ _ _ _ _ us hl => match us, hl with | [_, _], _ => rfl
  have F_Floor_has := fun_mk (st := s_Floor_has) l_Floor_has c_Floor_has k_Floor_has
  have B_Floor_has := F_Floor_has.binds (ps := ["self", "cell"]) fun _ _ _ _ _ _ us hl => match us, hl with | [_, _], _ => rfl
  have F_Floor_sign := fun_mk (st := s_Floor_sign) l_Floor_sign c_Floor_sign k_Floor_sign
  have B_Floor_sign := F_Floor_sign.binds (ps := ["self", "cell"]) fun _ _ _ _ _ _ us hl => match us, hl with | [_, _], _ => rfl
  have F_Floor_column := fun_mk (st := s_Floor_column) l_Floor_column c_Floor_column k_Floor_column
  have B_Floor_column := F_Floor_column.binds (ps := ["self", "cell"]) fun _ _ _ _ _ _ us hl => match us, hl with | [_, _], _ => rfl
  have F_Floor_row := fun_mk (st := s_Floor_row) l_Floor_row c_Floor_row k_Floor_row
  have B_Floor_row := F_Floor_row.binds (ps := ["self", "cell"]) fun _ _ _ _ _ _ us hl => match us, hl with | [_, _], _ => rfl
  have F_Floor_cells := fun_mk (st := s_Floor_cells) l_Floor_cells c_Floor_cells k_Floor_cells
  have B_Floor_cells := F_Floor_cells.binds (ps := ["self"]) fun _ _ _ _ _ _ us hl => match us, hl with | [_], _ => rfl
  have F_Floor_chargers := fun_mk (st := s_Floor_chargers) l_Floor_chargers c_Floor_chargers k_Floor_chargers
  have B_Floor_chargers := F_Floor_chargers.binds (ps := ["self"]) fun _ _ _ _ _ _ us hl => match us, hl with | [_], _ => rfl
  have F_Floor_beside := fun_mk (st := s_Floor_beside) l_Floor_beside c_Floor_beside k_Floor_beside
  have B_Floor_beside := F_Floor_beside.binds (ps := ["self", "cell"]) fun _ _ _ _ _ _ us hl => match us, hl with | [_, _], _ => rfl
  have F_Lat := fun_mk (st := s_Lat) l_Lat c_Lat k_Lat
  have B_Lat := F_Lat.binds (ps := ["_law_script", "_law_k"]) fun _ _ _ _ _ _ us hl => match us, hl with | [_, _], _ => rfl
  have F_Lmixed := fun_mk (st := s_Lmixed) l_Lmixed c_Lmixed k_Lmixed
  have B_Lmixed := F_Lmixed.binds (ps := ["_law_cell", "_law_k"]) fun _ _ _ _ _ _ us hl => match us, hl with | [_, _], _ => rfl
  have F_Lwhole := fun_mk (st := s_Lwhole) l_Lwhole c_Lwhole k_Lwhole
  have B_Lwhole := F_Lwhole.binds (ps := ["_law_thing"]) fun _ _ _ _ _ _ us hl => match us, hl with | [_], _ => rfl
  have F_Llines := fun_mk (st := s_Llines) l_Llines c_Llines k_Llines
  have B_Llines := F_Llines.binds (ps := ["_law_script", "_law_k", "_law_most"]) fun _ _ _ _ _ _ us hl => match us, hl with | [_, _, _], _ => rfl
  have F_Lsign := fun_mk (st := s_Lsign) l_Lsign c_Lsign k_Lsign
  have B_Lsign := F_Lsign.binds (ps := ["_law_lines_here", "_law_cell"]) fun _ _ _ _ _ _ us hl => match us, hl with | [_, _], _ => rfl
  have F_Lcells := fun_mk (st := s_Lcells) l_Lcells c_Lcells k_Lcells
  have B_Lcells := F_Lcells.binds (ps := ["_law_lines_here"]) fun _ _ _ _ _ _ us hl => match us, hl with | [_], _ => rfl
  have F_Lbeside := fun_mk (st := s_Lbeside) l_Lbeside c_Lbeside k_Lbeside
  have B_Lbeside := F_Lbeside.binds (ps := ["_law_lines_here", "_law_cell"]) fun _ _ _ _ _ _ us hl => match us, hl with | [_, _], _ => rfl
  have F_Lsame := fun_mk (st := s_Lsame) l_Lsame c_Lsame k_Lsame
  have B_Lsame := F_Lsame.binds (ps := ["_law_found", "_law_due"]) fun _ _ _ _ _ _ us hl => match us, hl with | [_, _], _ => rfl
  have F_Lfields := fun_mk (st := s_Lfields) l_Lfields c_Lfields k_Lfields
  have B_Lfields := F_Lfields.binds (ps := ["_law_floor", "_law_lines_here", "_law_kept"]) fun _ _ _ _ _ _ us hl => match us, hl with | [_, _, _], _ => rfl
  have F_Llists := fun_mk (st := s_Llists) l_Llists c_Llists k_Llists
  have B_Llists := F_Llists.binds (ps := ["_law_floor", "_law_lines_here", "_law_kept"]) fun _ _ _ _ _ _ us hl => match us, hl with | [_, _, _], _ => rfl
  have F_Lthings := fun_mk (st := s_Lthings) l_Lthings c_Lthings k_Lthings
  have B_Lthings := F_Lthings.binds (ps := ["_law_floor", "_law_lines_here", "_law_kept"]) fun _ _ _ _ _ _ us hl => match us, hl with | [_, _, _], _ => rfl
  have F_Leach := fun_mk (st := s_Leach) l_Leach c_Leach k_Leach
  have B_Leach := F_Leach.binds (ps := ["_law_floor", "_law_lines_here", "_law_kept"]) fun _ _ _ _ _ _ us hl => match us, hl with | [_, _, _], _ => rfl
  have F_Lasked := fun_mk (st := s_Lasked) l_Lasked c_Lasked k_Lasked
  have B_Lasked := F_Lasked.binds (ps := ["_law_floor", "_law_lines_here", "_law_kept", "_law_which"]) fun _ _ _ _ _ _ us hl => match us, hl with | [_, _, _, _], _ => rfl
  have F_law := fun_mk (st := s_law) l_law c_law k_law
  refine ⟨PySem.W.fnOf "law" "law" (defArgs s_law) (defBody s_law) (defScope s_law) .none kV_law dc_law pm_law an_law cd_law ct_law, ?bd, fun base _ _ => ?fn⟩
  case fn =>
    have G_is_whole : FnOk l.prog w K mg base CX0 1 f_is_whole _ ["thing"] (spWhole K) := ok_is_whole (ad := ⟨f_is_whole, f_is_among, f_check_row, f_check_floor, f_Floor_init, f_Floor_has, f_Floor_sign, f_Floor_column, f_Floor_row, f_Floor_cells, f_Floor_chargers, f_Floor_beside, f_Lat, f_Lmixed, f_Lwhole, f_Llines, f_Lsign, f_Lcells, f_Lbeside, f_Lsame, f_Lfields, f_Llists, f_Lthings, f_Leach, f_Lasked, f_law, C_Floor⟩) F_is_whole T
    have G_is_among : FnOk l.prog w K mg base CX0 2 f_is_among _ ["thing", "least", "most"] (spAmong K) := ok_is_among (ad := ⟨f_is_whole, f_is_among, f_check_row, f_check_floor, f_Floor_init, f_Floor_has, f_Floor_sign, f_Floor_column, f_Floor_row, f_Floor_cells, f_Floor_chargers, f_Floor_beside, f_Lat, f_Lmixed, f_Lwhole, f_Llines, f_Lsign, f_Lcells, f_Lbeside, f_Lsame, f_Lfields, f_Llists, f_Lthings, f_Leach, f_Lasked, f_law, C_Floor⟩) F_is_among T G_is_whole B_is_whole
    have G_check_row : FnOk l.prog w K mg base CX0 1 f_check_row _ ["line", "wide"] (spRow) := ok_check_row (ad := ⟨f_is_whole, f_is_among, f_check_row, f_check_floor, f_Floor_init, f_Floor_has, f_Floor_sign, f_Floor_column, f_Floor_row, f_Floor_cells, f_Floor_chargers, f_Floor_beside, f_Lat, f_Lmixed, f_Lwhole, f_Llines, f_Lsign, f_Lcells, f_Lbeside, f_Lsame, f_Lfields, f_Llists, f_Lthings, f_Leach, f_Lasked, f_law, C_Floor⟩) F_check_row T
    have G_check_floor : FnOk l.prog w K mg base CX0 3 f_check_floor _ ["lines"] (spCheck) := ok_check_floor (ad := ⟨f_is_whole, f_is_among, f_check_row, f_check_floor, f_Floor_init, f_Floor_has, f_Floor_sign, f_Floor_column, f_Floor_row, f_Floor_cells, f_Floor_chargers, f_Floor_beside, f_Lat, f_Lmixed, f_Lwhole, f_Llines, f_Lsign, f_Lcells, f_Lbeside, f_Lsame, f_Lfields, f_Llists, f_Lthings, f_Leach, f_Lasked, f_law, C_Floor⟩) F_check_floor T G_is_among B_is_among G_check_row B_check_row
    have G_Floor_init : FnOk l.prog w K mg base CX0 4 f_Floor_init _ ["self", "lines"] (spInit C_Floor) := ok_Floor_init (ad := ⟨f_is_whole, f_is_among, f_check_row, f_check_floor, f_Floor_init, f_Floor_has, f_Floor_sign, f_Floor_column, f_Floor_row, f_Floor_cells, f_Floor_chargers, f_Floor_beside, f_Lat, f_Lmixed, f_Lwhole, f_Llines, f_Lsign, f_Lcells, f_Lbeside, f_Lsame, f_Lfields, f_Llists, f_Lthings, f_Leach, f_Lasked, f_law, C_Floor⟩) F_Floor_init T G_check_floor B_check_floor
    have G_Floor_has : FnOk l.prog w K mg base CX0 3 f_Floor_has _ ["self", "cell"] (spHas K C_Floor) := ok_Floor_has (ad := ⟨f_is_whole, f_is_among, f_check_row, f_check_floor, f_Floor_init, f_Floor_has, f_Floor_sign, f_Floor_column, f_Floor_row, f_Floor_cells, f_Floor_chargers, f_Floor_beside, f_Lat, f_Lmixed, f_Lwhole, f_Llines, f_Lsign, f_Lcells, f_Lbeside, f_Lsame, f_Lfields, f_Llists, f_Lthings, f_Leach, f_Lasked, f_law, C_Floor⟩) F_Floor_has T G_is_among B_is_among
    have G_Floor_sign : FnOk l.prog w K mg base CX0 1 f_Floor_sign _ ["self", "cell"] (spSign C_Floor) := ok_Floor_sign (ad := ⟨f_is_whole, f_is_among, f_check_row, f_check_floor, f_Floor_init, f_Floor_has, f_Floor_sign, f_Floor_column, f_Floor_row, f_Floor_cells, f_Floor_chargers, f_Floor_beside, f_Lat, f_Lmixed, f_Lwhole, f_Llines, f_Lsign, f_Lcells, f_Lbeside, f_Lsame, f_Lfields, f_Llists, f_Lthings, f_Leach, f_Lasked, f_law, C_Floor⟩) F_Floor_sign T
    have G_Floor_column : FnOk l.prog w K mg base CX0 1 f_Floor_column _ ["self", "cell"] (spCol C_Floor) := ok_Floor_column (ad := ⟨f_is_whole, f_is_among, f_check_row, f_check_floor, f_Floor_init, f_Floor_has, f_Floor_sign, f_Floor_column, f_Floor_row, f_Floor_cells, f_Floor_chargers, f_Floor_beside, f_Lat, f_Lmixed, f_Lwhole, f_Llines, f_Lsign, f_Lcells, f_Lbeside, f_Lsame, f_Lfields, f_Llists, f_Lthings, f_Leach, f_Lasked, f_law, C_Floor⟩) F_Floor_column T
    have G_Floor_row : FnOk l.prog w K mg base CX0 1 f_Floor_row _ ["self", "cell"] (spRowOf C_Floor) := ok_Floor_row (ad := ⟨f_is_whole, f_is_among, f_check_row, f_check_floor, f_Floor_init, f_Floor_has, f_Floor_sign, f_Floor_column, f_Floor_row, f_Floor_cells, f_Floor_chargers, f_Floor_beside, f_Lat, f_Lmixed, f_Lwhole, f_Llines, f_Lsign, f_Lcells, f_Lbeside, f_Lsame, f_Lfields, f_Llists, f_Lthings, f_Leach, f_Lasked, f_law, C_Floor⟩) F_Floor_row T
    have G_Floor_cells : FnOk l.prog w K mg base CX0 4 f_Floor_cells _ ["self"] (spCells C_Floor) := ok_Floor_cells (ad := ⟨f_is_whole, f_is_among, f_check_row, f_check_floor, f_Floor_init, f_Floor_has, f_Floor_sign, f_Floor_column, f_Floor_row, f_Floor_cells, f_Floor_chargers, f_Floor_beside, f_Lat, f_Lmixed, f_Lwhole, f_Llines, f_Lsign, f_Lcells, f_Lbeside, f_Lsame, f_Lfields, f_Llists, f_Lthings, f_Leach, f_Lasked, f_law, C_Floor⟩) F_Floor_cells T G_Floor_has B_Floor_has
    have G_Floor_chargers : FnOk l.prog w K mg base CX0 1 f_Floor_chargers _ ["self"] (spChargers C_Floor) := ok_Floor_chargers (ad := ⟨f_is_whole, f_is_among, f_check_row, f_check_floor, f_Floor_init, f_Floor_has, f_Floor_sign, f_Floor_column, f_Floor_row, f_Floor_cells, f_Floor_chargers, f_Floor_beside, f_Lat, f_Lmixed, f_Lwhole, f_Llines, f_Lsign, f_Lcells, f_Lbeside, f_Lsame, f_Lfields, f_Llists, f_Lthings, f_Leach, f_Lasked, f_law, C_Floor⟩) F_Floor_chargers T
    have G_Floor_beside : FnOk l.prog w K mg base CX0 4 f_Floor_beside _ ["self", "cell"] (spBeside C_Floor) := ok_Floor_beside (ad := ⟨f_is_whole, f_is_among, f_check_row, f_check_floor, f_Floor_init, f_Floor_has, f_Floor_sign, f_Floor_column, f_Floor_row, f_Floor_cells, f_Floor_chargers, f_Floor_beside, f_Lat, f_Lmixed, f_Lwhole, f_Llines, f_Lsign, f_Lcells, f_Lbeside, f_Lsame, f_Lfields, f_Llists, f_Lthings, f_Leach, f_Lasked, f_law, C_Floor⟩) F_Floor_beside T G_Floor_column B_Floor_column G_Floor_has B_Floor_has
    have G_Lat : FnOk l.prog w K mg base CX0 1 f_Lat _ ["_law_script", "_law_k"] (spAt K) := ok_Lat (ad := ⟨f_is_whole, f_is_among, f_check_row, f_check_floor, f_Floor_init, f_Floor_has, f_Floor_sign, f_Floor_column, f_Floor_row, f_Floor_cells, f_Floor_chargers, f_Floor_beside, f_Lat, f_Lmixed, f_Lwhole, f_Llines, f_Lsign, f_Lcells, f_Lbeside, f_Lsame, f_Lfields, f_Llists, f_Lthings, f_Leach, f_Lasked, f_law, C_Floor⟩) F_Lat T
    have G_Lmixed : FnOk l.prog w K mg base CX0 1 f_Lmixed _ ["_law_cell", "_law_k"] (spMixed) := ok_Lmixed (ad := ⟨f_is_whole, f_is_among, f_check_row, f_check_floor, f_Floor_init, f_Floor_has, f_Floor_sign, f_Floor_column, f_Floor_row, f_Floor_cells, f_Floor_chargers, f_Floor_beside, f_Lat, f_Lmixed, f_Lwhole, f_Llines, f_Lsign, f_Lcells, f_Lbeside, f_Lsame, f_Lfields, f_Llists, f_Lthings, f_Leach, f_Lasked, f_law, C_Floor⟩) F_Lmixed T
    have G_Lwhole : FnOk l.prog w K mg base CX0 1 f_Lwhole _ ["_law_thing"] (spWhole K) := ok_Lwhole (ad := ⟨f_is_whole, f_is_among, f_check_row, f_check_floor, f_Floor_init, f_Floor_has, f_Floor_sign, f_Floor_column, f_Floor_row, f_Floor_cells, f_Floor_chargers, f_Floor_beside, f_Lat, f_Lmixed, f_Lwhole, f_Llines, f_Lsign, f_Lcells, f_Lbeside, f_Lsame, f_Lfields, f_Llists, f_Lthings, f_Leach, f_Lasked, f_law, C_Floor⟩) F_Lwhole T
    have G_Llines : FnOk l.prog w K mg base CX0 2 f_Llines _ ["_law_script", "_law_k", "_law_most"] (spLines K) := ok_Llines (ad := ⟨f_is_whole, f_is_among, f_check_row, f_check_floor, f_Floor_init, f_Floor_has, f_Floor_sign, f_Floor_column, f_Floor_row, f_Floor_cells, f_Floor_chargers, f_Floor_beside, f_Lat, f_Lmixed, f_Lwhole, f_Llines, f_Lsign, f_Lcells, f_Lbeside, f_Lsame, f_Lfields, f_Llists, f_Lthings, f_Leach, f_Lasked, f_law, C_Floor⟩) F_Llines T G_Lat B_Lat G_Lmixed B_Lmixed
    have G_Lsign : FnOk l.prog w K mg base CX0 1 f_Lsign _ ["_law_lines_here", "_law_cell"] (spLSign) := ok_Lsign (ad := ⟨f_is_whole, f_is_among, f_check_row, f_check_floor, f_Floor_init, f_Floor_has, f_Floor_sign, f_Floor_column, f_Floor_row, f_Floor_cells, f_Floor_chargers, f_Floor_beside, f_Lat, f_Lmixed, f_Lwhole, f_Llines, f_Lsign, f_Lcells, f_Lbeside, f_Lsame, f_Lfields, f_Llists, f_Lthings, f_Leach, f_Lasked, f_law, C_Floor⟩) F_Lsign T
    have G_Lcells : FnOk l.prog w K mg base CX0 2 f_Lcells _ ["_law_lines_here"] (spLCells) := ok_Lcells (ad := ⟨f_is_whole, f_is_among, f_check_row, f_check_floor, f_Floor_init, f_Floor_has, f_Floor_sign, f_Floor_column, f_Floor_row, f_Floor_cells, f_Floor_chargers, f_Floor_beside, f_Lat, f_Lmixed, f_Lwhole, f_Llines, f_Lsign, f_Lcells, f_Lbeside, f_Lsame, f_Lfields, f_Llists, f_Lthings, f_Leach, f_Lasked, f_law, C_Floor⟩) F_Lcells T G_Lsign B_Lsign
    have G_Lbeside : FnOk l.prog w K mg base CX0 3 f_Lbeside _ ["_law_lines_here", "_law_cell"] (spLBeside) := ok_Lbeside (ad := ⟨f_is_whole, f_is_among, f_check_row, f_check_floor, f_Floor_init, f_Floor_has, f_Floor_sign, f_Floor_column, f_Floor_row, f_Floor_cells, f_Floor_chargers, f_Floor_beside, f_Lat, f_Lmixed, f_Lwhole, f_Llines, f_Lsign, f_Lcells, f_Lbeside, f_Lsame, f_Lfields, f_Llists, f_Lthings, f_Leach, f_Lasked, f_law, C_Floor⟩) F_Lbeside T G_Lcells B_Lcells
    have G_Lsame : FnOk l.prog w K mg base CX0 2 f_Lsame _ ["_law_found", "_law_due"] (spSame) := ok_Lsame (ad := ⟨f_is_whole, f_is_among, f_check_row, f_check_floor, f_Floor_init, f_Floor_has, f_Floor_sign, f_Floor_column, f_Floor_row, f_Floor_cells, f_Floor_chargers, f_Floor_beside, f_Lat, f_Lmixed, f_Lwhole, f_Llines, f_Lsign, f_Lcells, f_Lbeside, f_Lsame, f_Lfields, f_Llists, f_Lthings, f_Leach, f_Lasked, f_law, C_Floor⟩) F_Lsame T G_Lwhole B_Lwhole
    have G_Lfields : FnOk l.prog w K mg base CX0 2 f_Lfields _ ["_law_floor", "_law_lines_here", "_law_kept"] (spAsk C_Floor) := ok_Lfields (ad := ⟨f_is_whole, f_is_among, f_check_row, f_check_floor, f_Floor_init, f_Floor_has, f_Floor_sign, f_Floor_column, f_Floor_row, f_Floor_cells, f_Floor_chargers, f_Floor_beside, f_Lat, f_Lmixed, f_Lwhole, f_Llines, f_Lsign, f_Lcells, f_Lbeside, f_Lsame, f_Lfields, f_Llists, f_Lthings, f_Leach, f_Lasked, f_law, C_Floor⟩) F_Lfields T G_Lwhole B_Lwhole
    have G_Llists : FnOk l.prog w K mg base CX0 5 f_Llists _ ["_law_floor", "_law_lines_here", "_law_kept"] (spAsk C_Floor) := ok_Llists (ad := ⟨f_is_whole, f_is_among, f_check_row, f_check_floor, f_Floor_init, f_Floor_has, f_Floor_sign, f_Floor_column, f_Floor_row, f_Floor_cells, f_Floor_chargers, f_Floor_beside, f_Lat, f_Lmixed, f_Lwhole, f_Llines, f_Lsign, f_Lcells, f_Lbeside, f_Lsame, f_Lfields, f_Llists, f_Lthings, f_Leach, f_Lasked, f_law, C_Floor⟩) F_Llists T G_Floor_cells B_Floor_cells G_Floor_chargers B_Floor_chargers G_Lcells B_Lcells G_Lsame B_Lsame G_Lsign B_Lsign
    have G_Lthings : FnOk l.prog w K mg base CX0 4 f_Lthings _ ["_law_floor", "_law_lines_here", "_law_kept"] (spAsk C_Floor) := ok_Lthings (ad := ⟨f_is_whole, f_is_among, f_check_row, f_check_floor, f_Floor_init, f_Floor_has, f_Floor_sign, f_Floor_column, f_Floor_row, f_Floor_cells, f_Floor_chargers, f_Floor_beside, f_Lat, f_Lmixed, f_Lwhole, f_Llines, f_Lsign, f_Lcells, f_Lbeside, f_Lsame, f_Lfields, f_Llists, f_Lthings, f_Leach, f_Lasked, f_law, C_Floor⟩) F_Lthings T G_Lcells B_Lcells G_Floor_has B_Floor_has
    have G_Leach : FnOk l.prog w K mg base CX0 5 f_Leach _ ["_law_floor", "_law_lines_here", "_law_kept"] (spAsk C_Floor) := ok_Leach (ad := ⟨f_is_whole, f_is_among, f_check_row, f_check_floor, f_Floor_init, f_Floor_has, f_Floor_sign, f_Floor_column, f_Floor_row, f_Floor_cells, f_Floor_chargers, f_Floor_beside, f_Lat, f_Lmixed, f_Lwhole, f_Llines, f_Lsign, f_Lcells, f_Lbeside, f_Lsame, f_Lfields, f_Llists, f_Lthings, f_Leach, f_Lasked, f_law, C_Floor⟩) F_Leach T G_Lcells B_Lcells G_Floor_beside B_Floor_beside G_Lsame B_Lsame G_Lbeside B_Lbeside G_Floor_sign B_Floor_sign G_Lsign B_Lsign G_Floor_row B_Floor_row G_Floor_column B_Floor_column G_Lwhole B_Lwhole
    have G_Lasked : FnOk l.prog w K mg base CX0 6 f_Lasked _ ["_law_floor", "_law_lines_here", "_law_kept", "_law_which"] (spAskW C_Floor) := ok_Lasked (ad := ⟨f_is_whole, f_is_among, f_check_row, f_check_floor, f_Floor_init, f_Floor_has, f_Floor_sign, f_Floor_column, f_Floor_row, f_Floor_cells, f_Floor_chargers, f_Floor_beside, f_Lat, f_Lmixed, f_Lwhole, f_Llines, f_Lsign, f_Lcells, f_Lbeside, f_Lsame, f_Lfields, f_Llists, f_Lthings, f_Leach, f_Lasked, f_law, C_Floor⟩) F_Lasked T G_Lfields B_Lfields G_Llists B_Llists G_Lthings B_Lthings G_Leach B_Leach
    exact ok_law F_law T G_Lat B_Lat G_Llines B_Llines G_Floor_init B_Floor_init G_Lasked B_Lasked
  case bd => exact fun s v => .of_eq rfl
theorem walk {l : PySem.W.OpenLaw} {q : Program} {loose : List Str} {XP : (Str → Option Value) → Heap → Prop} {YP : World → Heap → Prop} {d : DefRec} {K : Params → PySem.W.Frag} (hn : l.most = some 63) (hdf : d.params.defaults = [])
    (hY : ∀ (w : World) (h : Heap), YP w h → (K w.params).In h)
    (F : ∀ (w : World) (mg : Str → Option Value) (fa : Addr) (h : Heap), (K w.params).In h → h.Ns mainGlobals mg → mg d.name = some (.ref fa) →
      ∃ fd : FuncData, (∀ (s : Shared) (u : Value), BindsTo s fd ⟨[u], []⟩ [("_law_script", u)]) ∧ ∀ base : Heap, (K w.params).In base → base.Ns mainGlobals mg → FnOk l.prog w (K w.params) mg base CX0 7 fa fd ["_law_script"] (spLaw (K w.params))) :
    PySem.W.WalkO q loose XP YP l.row.toRowW d [] (fun f vs => PySem.call f vs) :=
  L2.walk_of (n := 63) (k := 7) (x := "_law_script") (CX := fun _ => CX0) (sp := fun w => spLaw (K w.params)) hn (by decide) hdf ⟨rfl, by decide, by decide⟩ hY F (fun _ _ a ns hl _ hS => ⟨a, ns, rfl, hS, hl, fun _ => rfl⟩) fun _ _ _ _ _ z => z
end Pf
open PySem PySem.W PyProof.Rows
set_option maxRecDepth 100000 in
set_option maxHeartbeats 0 in
theorem PySem.Challenge.cw_floorways_k04_floors_holds : PySem.Challenge.rw_floorways_k04_floors.Holds := by
  w_on; o_law; k_head; (case hw => w_witness2)
  k_fill
  refine Pf.walk (l := PySem.Challenge.rw_floorways_k04_floors) rfl rfl (fun w h Y => PySem.W.kIn_of Y) ?F
  case F =>
    intro w mg fa h KX G hmg
    refine' Pf.all_mk KX G hmg ?aC_Floor ?pg_Floor ?hd_Floor ?po_Floor ?sa_Floor ?kc_Floor ?mk_Floor ?n_Floor_wide ?n_Floor_high ?n_Floor_lines ?n_Floor_signs ?a_is_whole ?l_is_whole ?c_is_whole ?k_is_whole ?a_is_among ?l_is_among ?c_is_among ?k_is_among ?a_check_row ?l_check_row ?c_check_row ?k_check_row ?a_check_floor ?l_check_floor ?c_check_floor ?k_check_floor ?a_Floor_init ?i_Floor_init ?l_Floor_init ?c_Floor_init ?k_Floor_init ?a_Floor_has ?i_Floor_has ?l_Floor_has ?c_Floor_has ?k_Floor_has ?a_Floor_sign ?i_Floor_sign ?l_Floor_sign ?c_Floor_sign ?k_Floor_sign ?a_Floor_column ?i_Floor_column ?l_Floor_column ?c_Floor_column ?k_Floor_column ?a_Floor_row ?i_Floor_row ?l_Floor_row ?c_Floor_row ?k_Floor_row ?a_Floor_cells ?i_Floor_cells ?l_Floor_cells ?c_Floor_cells ?k_Floor_cells ?a_Floor_chargers ?i_Floor_chargers ?l_Floor_chargers ?c_Floor_chargers ?k_Floor_chargers ?a_Floor_beside ?i_Floor_beside ?l_Floor_beside ?c_Floor_beside ?k_Floor_beside ?a_Lat ?l_Lat ?c_Lat ?k_Lat ?a_Lmixed ?l_Lmixed ?c_Lmixed ?k_Lmixed ?a_Lwhole ?l_Lwhole ?c_Lwhole ?k_Lwhole ?a_Llines ?l_Llines ?c_Llines ?k_Llines ?a_Lsign ?l_Lsign ?c_Lsign ?k_Lsign ?a_Lcells ?l_Lcells ?c_Lcells ?k_Lcells ?a_Lbeside ?l_Lbeside ?c_Lbeside ?k_Lbeside ?a_Lsame ?l_Lsame ?c_Lsame ?k_Lsame ?a_Lfields ?l_Lfields ?c_Lfields ?k_Lfields ?a_Llists ?l_Llists ?c_Llists ?k_Llists ?a_Lthings ?l_Lthings ?c_Lthings ?k_Lthings ?a_Leach ?l_Leach ?c_Leach ?k_Leach ?a_Lasked ?l_Lasked ?c_Lasked ?k_Lasked ?a_law ?l_law ?c_law ?k_law ?z_len ?z_range ?z_isinstance ?z_all ?z_int ?z_bool ?z_str ?z_list ?x_WALL ?x_CHARGER ?x_SIGNS ?x_MOST_ROWS ?x_MOST_SIGNS
    (case aC_Floor => k_is)
    (case pg_Floor => k_is)
    (case hd_Floor => k_is)
    (case po_Floor => k_is)
    (case sa_Floor => k_is)
    (case kc_Floor => k_is)
    (case mk_Floor => k_is)
    (case n_Floor_wide => k_is)
    (case n_Floor_high => k_is)
    (case n_Floor_lines => k_is)
    (case n_Floor_signs => k_is)
    (case a_is_whole => k_is)
    (case l_is_whole => k_is)
    (case c_is_whole => k_is)
    (case k_is_whole => k_is)
    (case a_is_among => k_is)
    (case l_is_among => k_is)
    (case c_is_among => k_is)
    (case k_is_among => k_is)
    (case a_check_row => k_is)
    (case l_check_row => k_is)
    (case c_check_row => k_is)
    (case k_check_row => k_is)
    (case a_check_floor => k_is)
    (case l_check_floor => k_is)
    (case c_check_floor => k_is)
    (case k_check_floor => k_is)
    (case a_Floor_init => k_is)
    (case i_Floor_init => k_is)
    (case l_Floor_init => k_is)
    (case c_Floor_init => k_is)
    (case k_Floor_init => k_is)
    (case a_Floor_has => k_is)
    (case i_Floor_has => k_is)
    (case l_Floor_has => k_is)
    (case c_Floor_has => k_is)
    (case k_Floor_has => k_is)
    (case a_Floor_sign => k_is)
    (case i_Floor_sign => k_is)
    (case l_Floor_sign => k_is)
    (case c_Floor_sign => k_is)
    (case k_Floor_sign => k_is)
    (case a_Floor_column => k_is)
    (case i_Floor_column => k_is)
    (case l_Floor_column => k_is)
    (case c_Floor_column => k_is)
    (case k_Floor_column => k_is)
    (case a_Floor_row => k_is)
    (case i_Floor_row => k_is)
    (case l_Floor_row => k_is)
    (case c_Floor_row => k_is)
    (case k_Floor_row => k_is)
    (case a_Floor_cells => k_is)
    (case i_Floor_cells => k_is)
    (case l_Floor_cells => k_is)
    (case c_Floor_cells => k_is)
    (case k_Floor_cells => k_is)
    (case a_Floor_chargers => k_is)
    (case i_Floor_chargers => k_is)
    (case l_Floor_chargers => k_is)
    (case c_Floor_chargers => k_is)
    (case k_Floor_chargers => k_is)
    (case a_Floor_beside => k_is)
    (case i_Floor_beside => k_is)
    (case l_Floor_beside => k_is)
    (case c_Floor_beside => k_is)
    (case k_Floor_beside => k_is)
    (case a_Lat => k_is)
    (case l_Lat => k_is)
    (case c_Lat => k_is)
    (case k_Lat => k_is)
    (case a_Lmixed => k_is)
    (case l_Lmixed => k_is)
    (case c_Lmixed => k_is)
    (case k_Lmixed => k_is)
    (case a_Lwhole => k_is)
    (case l_Lwhole => k_is)
    (case c_Lwhole => k_is)
    (case k_Lwhole => k_is)
    (case a_Llines => k_is)
    (case l_Llines => k_is)
    (case c_Llines => k_is)
    (case k_Llines => k_is)
    (case a_Lsign => k_is)
    (case l_Lsign => k_is)
    (case c_Lsign => k_is)
    (case k_Lsign => k_is)
    (case a_Lcells => k_is)
    (case l_Lcells => k_is)
    (case c_Lcells => k_is)
    (case k_Lcells => k_is)
    (case a_Lbeside => k_is)
    (case l_Lbeside => k_is)
    (case c_Lbeside => k_is)
    (case k_Lbeside => k_is)
    (case a_Lsame => k_is)
    (case l_Lsame => k_is)
    (case c_Lsame => k_is)
    (case k_Lsame => k_is)
    (case a_Lfields => k_is)
    (case l_Lfields => k_is)
    (case c_Lfields => k_is)
    (case k_Lfields => k_is)
    (case a_Llists => k_is)
    (case l_Llists => k_is)
    (case c_Llists => k_is)
    (case k_Llists => k_is)
    (case a_Lthings => k_is)
    (case l_Lthings => k_is)
    (case c_Lthings => k_is)
    (case k_Lthings => k_is)
    (case a_Leach => k_is)
    (case l_Leach => k_is)
    (case c_Leach => k_is)
    (case k_Leach => k_is)
    (case a_Lasked => k_is)
    (case l_Lasked => k_is)
    (case c_Lasked => k_is)
    (case k_Lasked => k_is)
    (case a_law => k_is)
    (case l_law => k_is)
    (case c_law => k_is)
    (case k_law => k_is)
    (case z_len => k_is)
    (case z_range => k_is)
    (case z_isinstance => k_is)
    (case z_all => k_is)
    (case z_int => k_is)
    (case z_bool => k_is)
    (case z_str => k_is)
    (case z_list => k_is)
    (case x_WALL => k_is)
    (case x_CHARGER => k_is)
    (case x_SIGNS => k_is)
    (case x_MOST_ROWS => k_is)
    (case x_MOST_SIGNS => k_is)
