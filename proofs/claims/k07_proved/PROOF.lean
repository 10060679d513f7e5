import PyProof.Rows.All
import PyProof.StrLoop
import PyProof.TupleIter
import PyProof.RangeIter
import Wide.All
import OpenK.AllK
import Wide.FinOn
import Lean
import PyProof.EqAt
import PyProof.EqKinds
import PyProof.TupleCall
import KE.KRevIter
import PyProof.CollectIter
import PyProof.ListRange
import PyProof.StationsW
import KE.KTryMore
import PyProof.RulesAs
import PySem.Challenge.RW_floorways_k07_made
def PySem.W.Fast.tw13977898809401313383 : Unit := ()
def PySem.W.Fast.tw1296907044719672462 : Unit := ()
def PySem.W.Fast.tw2383097519200356616 : Unit := ()
def PySem.W.Fast.tw12575764990727817848 : Unit := ()
def PySem.W.Fast.tw1656615651476524775 : Unit := ()
def PySem.W.Fast.tw240936660471131715 : Unit := ()
def PySem.W.Fast.tw7161418019798167540 : Unit := ()
def PySem.W.Fast.tw7922493225730333959 : Unit := ()
def PySem.W.Fast.tw13163145270161600109 : Unit := ()
def PySem.W.Fast.tw9799287876858600766 : Unit := ()
def PySem.W.Fast.tw17462471801522711672 : Unit := ()
def PySem.W.Fast.tw2997462761227964908 : Unit := ()
def PySem.W.Fast.tw12460335724894234909 : Unit := ()
def PySem.W.Fast.tw9626388305349061098 : Unit := ()
def PySem.W.Fast.tw6092921894725303314 : Unit := ()
def PySem.W.Fast.tw16643699421947615691 : Unit := ()
def PySem.W.Fast.tw7303447757005819126 : Unit := ()
set_option Elab.async false
set_option linter.all false
set_option maxRecDepth 100000
namespace L2
open PySem PyProof.Rows PySem.Calls
def Hd (A : Around) (h : Heap) : Prop :=
  A.handled = none ∨ ∃ (ea C : Addr) (dx : Option Addr) (vs : Array Value) (sl : Array (Option Value)), A.handled = some (.ref ea) ∧ h.get? ea = some ⟨.ref C, dx, .fields vs, sl⟩ ∧ vs[2]? = some Value.none
theorem Hd.keeps {A : Around} {h h' : Heap} (d : Hd A h) (k : ∀ b o, h.get? b = some o → h'.get? b = some o) : Hd A h' := by
  rcases d with d | ⟨ea, C, dx, vs, sl, d1, d2, d3⟩
  · exact .inl d
  · exact .inr ⟨ea, C, dx, vs, sl, d1, k _ _ d2, d3⟩
theorem Hd.update {A : Around} {h : Heap} (d : Hd A h) {it : Addr} {o : Obj} {n : String} (ho : h.get? it = some o) (hc : o.cls = .type n) (f : Obj → Obj) : Hd A (h.update it f) := by
  rcases d with d | ⟨ea, C, dx, vs, sl, d1, d2, d3⟩
  · exact .inl d
  · refine .inr ⟨ea, C, dx, vs, sl, d1, ?_, d3⟩
    rw [Heap.get?_update_other h f (fun z => ?_)]
    · exact d2
    · subst z
      rw [ho] at d2
      cases d2
      cases hc
section
variable {prog : Program} {w : World} {A : Around} {E : Value → Shared → Prop} {s : Shared}
theorem entry_unchain : entryFor table "proto.unchain" = some Builtin.«proto.unchain» := entryFor_of_tree (by kernel_rfl)
theorem raise_new {α : Type} {Q : α → Shared → Prop} {e : Addr} {c : Value} {d : Option Addr} {ws : Array Value} {sl : Array (Option Value)} (hd : Hd A s.heap) (hn : ∀ ea, A.handled = some (.ref ea) → ea ≠ e) (he : s.heap.get? e = some ⟨c, d, .fields ws, sl⟩) (hz : 2 < ws.size)
    (k : ∀ h', (∀ b o, b ≠ e → s.heap.get? b = some o → h'.get? b = some o) → (∃ o, h'.get? e = some o ∧ o.cls = c) → E (.ref e) { s with heap := h' }) : wpAny (model prog w) A (raiseNew (.ref e) : Sem α) Q E s := by
  rcases hd with hd | ⟨ea, C, dx, vs, sl2, d1, d2, d3⟩
  · unfold raiseNew
    refine wpAny_bind (wpAny_handled ?_)
    rw [hd]
    exact wpAny_bind (wpAny_pure (wpAny_throw (k _ (fun _ _ _ z => z) ⟨_, he, rfl⟩)))
  · have ne := hn ea d1
    unfold raiseNew
    refine wpAny_bind (wpAny_handled ?_)
    rw [d1]
    have hb : (Value.ref ea != Value.ref e) = true := by simp [ne]
    dsimp only
    rw [if_pos hb]
    refine wpAny_bind (wpAny_holding (wpAny_runValue (codeAny_builtin entry_unchain ?_)))
    show wpAny _ _ (field (.ref ea) 2 >>= _) _ _ s
    refine wpAny_bind (wpAny_field d2 rfl d3 ?_)
    rw [if_pos (by decide)]
    refine wpAny_bind (wpAny_pure (wpAny_pure ?_))
    unfold updateField
    refine wpAny_bind (wpAny_bind (wpAny_load he ?_))
    show wpAny _ _ (if 2 < ws.size then _ else _) _ _ s
    rw [if_pos hz]
    refine wpAny_update he (wpAny_throw (k _ (fun b o hb z => ?_) ⟨_, Heap.get?_update_self _ he rfl, rfl⟩))
    rw [Heap.get?_update_other _ _ (Ne.symm hb)]
    exact z
theorem stop_told {α : Type} {Q : α → Shared → Prop} (hd : Hd A s.heap) (k : ∀ h' e, (∀ b o, s.heap.get? b = some o → h'.get? b = some o) → (∃ o, h'.get? e = some o ∧ o.cls = .type "StopIteration") → E (.ref e) { s with heap := h' }) :
    wpAny (model prog w) A (newExc (.type "StopIteration") [] >>= fun e => (raiseNew e : Sem α)) Q E s := by
  refine wpAny_bind ?_
  simp only [newExc, newTuple]
  refine wpAny_bind (wpAny_newObj_type ?_ (by size_fits))
  refine wpAny_bind (m := firstArgMember _ _) (wpAny_of_eq (a := Value.none) (by first | rfl | (simp only [firstArgMember]; rfl)) ?_)
  refine wpAny_newObj_type ?_ (by size_fits)
  have up : ∀ b o, s.heap.get? b = some o → ((s.heap.push { cls := .type "tuple", data := .seq #[] }).push { cls := .type "StopIteration", data := .fields (#[Value.ref s.heap.objs.size, .none, .none, .none, .bool false, .none] ++ ownMembersOf (.type "StopIteration") []) }).get? b = some o :=
    fun b o z => Heap.get?_push_of_some _ (Heap.get?_push_of_some _ z)
  have lt : ∀ b o, s.heap.get? b = some o → b ≠ (s.heap.push { cls := .type "tuple", data := .seq #[] }).objs.size := fun b o z => Nat.ne_of_lt (Heap.lt_size (Heap.get?_push_of_some _ z))
  refine raise_new (hd.keeps up) (fun ea z => ?_) (Heap.get?_push_size _ rfl) (by rw [Array.size_append]; exact Nat.lt_of_lt_of_le (show 2 < 6 by decide) (Nat.le_add_right 6 _)) fun h' k1 k2 => k h' _ (fun b o z => k1 b o (lt b o z) (up b o z)) k2
  rcases hd with hd | ⟨eb, C, dx, vs, sl, d1, d2, d3⟩
  · rw [hd] at z
    cases z
  · rw [d1] at z
    cases z
    exact lt _ _ d2
theorem stop_seen {Q : Option Value → Shared → Prop} {e : Addr} (he : ∃ o, s.heap.get? e = some o ∧ o.cls = .type "StopIteration") (h : Q none s) :
    wpAny (model prog w) A (do if ← isInstance (.ref e) (.type "StopIteration") then pure none else throw (.ref e)) Q E s :=
  wpAny_bind (wpAny_isInstance (T := "StopIteration") (b := true) he isSubtype_stop (wpAny_pure h))
theorem list_end {it l : Addr} {i : Nat} {items : Array Value} {Q : Option Value → Shared → Prop} (hh : Hd A s.heap) (hit : s.heap.IsListIter it l i) (hl : s.heap.IsList l items) (hx : items[i]? = none)
    (hQ : ∀ h', Heap.ExtBut it s.heap h' → Q none { s with heap := h' }) : wpAny (model prog w) A (pyNext (.ref it)) Q E s := by
  obtain ⟨o, ho, hc, hd⟩ := id hit
  obtain ⟨_, hol, _, _, hdl⟩ := hl
  unfold pyNext
  refine wpAny_bind (wpAny_attempt (wpAny_callSpecial?_slot (name := Str.ofString "__next__") hit.typeIs slot_listiter_next (wpAny_call_entry slot_listiter_next hit.typeIs entry_listiter_next ?_ (args_listiter_next _))))
  show wpAny _ _ (field (.ref it) 0 >>= _) _ _ s
  refine wpAny_bind (wpAny_field ho hd (x := .ref l) rfl ?_)
  rw [if_neg (fun z : (Value.ref l == Value.none) = true => nomatch z)]
  show wpAny _ _ (field (.ref it) 1 >>= _) _ _ s
  refine wpAny_bind (wpAny_field ho hd (x := .int i 0) rfl ?_)
  show wpAny _ _ (seqItems? (.ref l) >>= _) _ _ s
  refine wpAny_bind (wpAny_seqItems hol hdl ?_)
  simp only [Int.toNat_natCast, hx]
  refine wpAny_bind (wpAny_rule (wpAny_bind (wpAny_setField ho hd (by simp) ?_)))
  refine stop_told (hh.update (A := A) ho hc _) fun h' e k1 k2 => stop_seen k2 (hQ h' fun b o hb z => k1 b o ?_)
  rw [Heap.get?_update_other _ _ (Ne.symm hb)]
  exact z
theorem tuple_end {it t : Addr} {i : Nat} {items : Array Value} {Q : Option Value → Shared → Prop} (hh : Hd A s.heap) (hit : s.heap.IsTupleIter it t i) (ht : s.heap.IsTuple t items) (hx : items[i]? = none)
    (hQ : ∀ h', Heap.ExtBut it s.heap h' → Q none { s with heap := h' }) : wpAny (model prog w) A (pyNext (.ref it)) Q E s := by
  obtain ⟨o, ho, hc, hd⟩ := id hit
  obtain ⟨_, hol, _, _, hdl⟩ := ht
  unfold pyNext
  refine wpAny_bind (wpAny_attempt (wpAny_callSpecial?_slot (name := Str.ofString "__next__") hit.typeIs F.slot_tuple_iterator_next (wpAny_call_entry F.slot_tuple_iterator_next hit.typeIs F.entry_tuple_iterator_next ?_ (F.args_tuple_iterator_next_1 _))))
  show wpAny _ _ (field (.ref it) 0 >>= _) _ _ s
  refine wpAny_bind (wpAny_field ho hd (x := .ref t) rfl ?_)
  rw [if_neg (fun z : (Value.ref t == Value.none) = true => nomatch z)]
  show wpAny _ _ (field (.ref it) 1 >>= _) _ _ s
  refine wpAny_bind (wpAny_field ho hd (x := .int i 0) rfl ?_)
  show wpAny _ _ (seqItems? (.ref t) >>= _) _ _ s
  refine wpAny_bind (wpAny_seqItems hol hdl ?_)
  simp only [Int.toNat_natCast, hx]
  refine wpAny_bind (wpAny_rule (wpAny_bind (wpAny_setField ho hd (by simp) ?_)))
  refine stop_told (hh.update (A := A) ho hc _) fun h' e k1 k2 => stop_seen k2 (hQ h' fun b o hb z => k1 b o ?_)
  rw [Heap.get?_update_other _ _ (Ne.symm hb)]
  exact z
theorem range_end {it : Addr} {x left step : Int} {Q : Option Value → Shared → Prop} (hh : Hd A s.heap) (hit : IsRangeIter s.heap it x left step) (hleft : left ≤ 0)
    (hQ : ∀ h', Heap.ExtBut it s.heap h' → Q none { s with heap := h' }) : wpAny (model prog w) A (pyNext (.ref it)) Q E s := by
  have hT : s.TypeIs (.ref it) "range_iterator" := ⟨_, hit, rfl⟩
  unfold pyNext
  refine wpAny_bind (wpAny_attempt (wpAny_callSpecial?_slot (name := Str.ofString "__next__") hT F.slot_range_iterator_next (wpAny_call_entry F.slot_range_iterator_next hT F.entry_range_iterator_next ?_ (F.args_range_iterator_next_1 _))))
  show wpAny _ _ (field (.ref it) 0 >>= _) _ _ s
  refine wpAny_bind (wpAny_field hit rfl (x := rawInt x) rfl ?_)
  show wpAny _ _ (field (.ref it) 1 >>= _) _ _ s
  refine wpAny_bind (wpAny_field hit rfl (x := rawInt left) rfl ?_)
  show wpAny _ _ (field (.ref it) 2 >>= _) _ _ s
  refine wpAny_bind (wpAny_field hit rfl (x := rawInt step) rfl ?_)
  show wpAny _ _ (if left ≤ 0 then _ else _) _ _ s
  rw [if_pos hleft]
  refine wpAny_bind (wpAny_rule (wpAny_bind ?_))
  exact stop_told (A := A.in1) hh fun h' e k1 k2 => stop_seen k2 (hQ h' fun b o hb z => k1 b o z)
theorem tup_unpacked {env : Env} {elts : List Expr} {x1} {pos : Pos} {t : Addr} {items : Array Value} {Q : Unit → Shared → Prop} (hh : Hd A s.heap) (ht : IsTup s.heap t items) (hn : (assignEach elts env).length = items.size) (hstar : (assignEach elts env).findIdx? (·.1) = none)
    (h : ∀ h', Heap.ExtBut s.heap.objs.size s.heap h' → wpAny (model prog w) A (assignInOrder ((assignEach elts env).map (·.2)) items.toList) Q E { s with heap := h' }) : wpAny (model prog w) A (assign (.Tuple elts x1 pos) env (.ref t)) Q E s := by
  have ne : t ≠ s.heap.objs.size := by obtain ⟨o, ho, _⟩ := ht; exact Nat.ne_of_lt (Heap.lt_size ho)
  rw [assign_Tuple]
  refine wpAny_bind (wpAny_standAt ?_)
  unfold unpack
  rw [hn, hstar]
  refine wpAny_bind (wpAny_holding ?_)
  unfold unpackItems
  refine wpAny_bind ?_
  unfold notIterableAtAll
  refine wpAny_bind (wpAny_specialOf ht.typeIs slot_tuple_iter.lookup (wpAny_pure ?_))
  simp only [Bool.false_eq_true, if_false]
  refine wpAny_bind (wpAny_holding (iter_tuple ht ?_))
  refine wpAny_bind (wpAny_holding (draw_tuple ne items.size 0 _ _ ⟨_, Heap.get?_push_size _ rfl, rfl, rfl⟩ (ht.push _) (by omega) fun h₁ hit₁ hs₁ => ?_))
  rw [List.drop_zero, List.take_of_length_le (by simp)]
  rw [if_neg (by simp)]
  have k1 : ∀ b o, s.heap.get? b = some o → h₁.get? b = some o := fun b o z => (hs₁.2 b (Nat.ne_of_lt (Heap.lt_size z))).trans (Heap.get?_push_of_some _ z)
  have ht₁ : IsTup h₁ t items := (ht.push _).extBut hs₁.extBut ne
  refine wpAny_bind (wpAny_holding (tuple_end (s := { s with heap := h₁ }) (hh.keeps k1) hit₁ ht₁ (by simp) fun h₂ he₂ => ?_))
  simp only [Option.isSome_none, Bool.false_eq_true, if_false]
  exact wpAny_pure (h h₂ fun b o hb z => he₂ b o hb (k1 b o z))
end
end L2
set_option Elab.async false
set_option linter.all false
set_option maxRecDepth 100000
namespace L2
open PySem PySem.Spec PyProof.Rows
abbrev Key := Sum Int Str
def keyIs : Key → Value → Bool
  | .inl k, v => Value.isInt k v
  | .inr x, v => Value.isStrOf x v
def keyH (w : World) : Key → Int
  | .inl k => hashInt k
  | .inr x => hashStr w x
theorem keyIs_shape : ∀ {k : Key} {v : Value}, keyIs k v = true → (∃ i t, k = Sum.inl i ∧ v = Value.int i t) ∨ (∃ x t, k = Sum.inr x ∧ v = Value.str x t)
  | .inl i, v, h => by
    obtain ⟨t, e⟩ := Value.isInt_shape (k := i) (v := v) h
    exact .inl ⟨i, t, rfl, e⟩
  | .inr x, v, h => by
    obtain ⟨t, e⟩ := Value.isStrOf_shape (x := x) (v := v) h
    exact .inr ⟨x, t, rfl, e⟩
theorem key_ll (a b : Int) : decide ((Sum.inl a : Key) = Sum.inl b) = (a == b) := by
  by_cases e : a = b
  · subst e; simp
  · have h : ¬ (Sum.inl a : Key) = Sum.inl b := fun q => e (Sum.inl.inj q)
    rw [decide_eq_false h]
    exact (beq_eq_false_iff_ne.mpr e).symm
theorem key_rr (a b : Str) : decide ((Sum.inr a : Key) = Sum.inr b) = decide (a = b) := by
  by_cases e : a = b
  · subst e; simp
  · have h : ¬ (Sum.inr a : Key) = Sum.inr b := fun q => e (Sum.inr.inj q)
    rw [decide_eq_false h, decide_eq_false e]
theorem key_lr (a : Int) (b : Str) : decide ((Sum.inl a : Key) = Sum.inr b) = false := decide_eq_false (fun q => nomatch q)
theorem key_rl (a : Str) (b : Int) : decide ((Sum.inr a : Key) = Sum.inl b) = false := decide_eq_false (fun q => nomatch q)
def mixKind (prog : Program) (w : World) : PySem.KeyKind prog w Key where
  is := keyIs
  hash := keyH w
  inj := fun v a b ha hb => by
    rcases keyIs_shape ha with ⟨i, t, rfl, rfl⟩ | ⟨x, t, rfl, rfl⟩
    · rcases keyIs_shape hb with ⟨j, u, rfl, e⟩ | ⟨y, u, rfl, e⟩
      · injection e with e1 _; rw [e1]
      · exact nomatch e
    · rcases keyIs_shape hb with ⟨j, u, rfl, e⟩ | ⟨y, u, rfl, e⟩
      · exact nomatch e
      · injection e with e1 _; rw [e1]
  byValue := fun k v h => by
    rcases keyIs_shape h with ⟨i, t, rfl, rfl⟩ | ⟨x, t, rfl, rfl⟩ <;> rfl
  pyHash := fun hv h => by
    rcases keyIs_shape hv with ⟨i, t, rfl, rfl⟩ | ⟨x, t, rfl, rfl⟩
    · exact wpAny_pyHash_int h
    · exact wpAny_pyHash_str h
  eqBool := fun hu hv h => by
    rcases keyIs_shape hu with ⟨i, t, rfl, rfl⟩ | ⟨x, t, rfl, rfl⟩
    · rcases keyIs_shape hv with ⟨j, u, rfl, rfl⟩ | ⟨y, u, rfl, rfl⟩
      · rw [key_ll] at h; exact wpAny_eqBool_int h
      · rw [key_lr] at h; exact SeqAt.EqAt.int_str i t y u _ _ _ _ h
    · rcases keyIs_shape hv with ⟨j, u, rfl, rfl⟩ | ⟨y, u, rfl, rfl⟩
      · rw [key_rl] at h; exact SeqAt.EqAt.str_int x t j u _ _ _ _ h
      · rw [key_rr] at h; exact wpAny_eqBool_str h
  «strs» := fun k x t v h => by
    rcases keyIs_shape h with ⟨i, u, rfl, e⟩ | ⟨y, u, rfl, e⟩
    · exact nomatch e
    · injection e with e1 _
      subst e1
      cases v <;> rfl
end L2
namespace L2
open PySem PySem.Spec PyProof.Rows
inductive V where
  | non | bl (b : Bool) | int (i : Int) | str (x : Str) | byt (b : Array UInt8) | flt (b : UInt64) | ref (a : Addr) | ty (n : String)
  deriving DecidableEq
def RelV : V → Value → Prop
  | .non, u => u = Value.none
  | .bl b, u => u = Value.bool b
  | .int i, u => ∃ t, u = Value.int i t
  | .str x, u => ∃ t, u = Value.str x t
  | .byt b, u => ∃ t, u = Value.bytes b t
  | .flt b, u => ∃ t, u = Value.float b t
  | .ref a, u => u = Value.ref a
  | .ty n, u => u = Value.type n
abbrev Vals : List V → List Value → Prop := Paired RelV
theorem Vals.length {xs : List V} {us : List Value} (r : Vals xs us) : xs.length = us.length := Paired.length r
theorem Vals.get : ∀ {xs : List V} {us : List Value} {i : Nat} {x : V}, Vals xs us → xs[i]? = some x → ∃ u, us[i]? = some u ∧ RelV x u
  | _, _, _, _, .nil, e => by simp at e
  | _, _, 0, _, .cons r _, e => by simp at e; subst e; exact ⟨_, rfl, r⟩
  | _, _, i + 1, x, .cons _ t, e => by
    obtain ⟨u, h1, h2⟩ := Vals.get (i := i) (x := x) t (by simpa using e)
    exact ⟨u, by simpa using h1, h2⟩
theorem Vals.set {x : V} {u : Value} (r : RelV x u) : ∀ {xs : List V} {us : List Value} (i : Nat), Vals xs us → Vals (xs.set i x) (us.set i u)
  | _, _, _, .nil => .nil
  | _, _, 0, .cons _ t => .cons r t
  | _, _, i + 1, .cons q t => .cons q (Vals.set r i t)
theorem Vals.append : ∀ {xs ys : List V} {us ws : List Value}, Vals xs us → Vals ys ws → Vals (xs ++ ys) (us ++ ws)
  | _, _, _, _, .nil, s => s
  | _, _, _, _, .cons r t, s => .cons r (Vals.append t s)
theorem Vals.take : ∀ {xs : List V} {us : List Value} (n : Nat), Vals xs us → Vals (xs.take n) (us.take n)
  | _, _, 0, _ => .nil
  | _, _, _ + 1, .nil => .nil
  | _, _, n + 1, .cons r t => .cons r (Vals.take n t)
theorem Vals.drop : ∀ {xs : List V} {us : List Value} (n : Nat), Vals xs us → Vals (xs.drop n) (us.drop n)
  | _, _, 0, r => r
  | _, _, _ + 1, .nil => .nil
  | _, _, n + 1, .cons _ t => Vals.drop n t
theorem Vals.none_of : ∀ {xs : List V} {us : List Value} {i : Nat}, Vals xs us → xs[i]? = none → us[i]? = none := fun {xs us i} r e => by
  have h1 := r.length
  have h2 : xs.length ≤ i := List.getElem?_eq_none_iff.mp e
  exact List.getElem?_eq_none_iff.mpr (by omega)
def RelO : Option V → Option Value → Prop
  | some v, some u => RelV v u
  | none, none => True
  | _, _ => False
def KV {κ : Type} : List (κ × V) → List (κ × Value) → Prop := Paired fun (p : κ × V) (q : κ × Value) => p.1 = q.1 ∧ RelV p.2 q.2
def kV : Key → V
  | .inl i => .int i
  | .inr x => .str x
inductive HO where
  | lst (xs : List V)
  | tup (xs : List V)
  | dK (kvs : List (Key × V)) | dT (kvs : List (List Key × V))
  | set (S : Int → Bool) (n : Nat)
  | ins (C dx : Addr) (fs : List (Str × V))
  | own (x : Addr)
  | xd (fs : List (Str × V))
  | met (f x : Addr)
  | rng (lo hi : Int)
  | frz (o : Obj) (u : HO)
  | tbl (ps : Array Value)
  | ext (φ : Heap → Prop)
abbrev Hp := Addr → Option HO
def upd (H : Hp) (a : Addr) (o : HO) : Hp := fun b => if b = a then some o else H b
theorem upd_same {H : Hp} {a : Addr} {o : HO} : upd H a o a = some o := by unfold upd; rw [if_pos rfl]
theorem upd_ne {H : Hp} {a b : Addr} {o : HO} (h : b ≠ a) : upd H a o b = H b := by unfold upd; rw [if_neg h]
theorem ne_of_none {H : Hp} {a b : Addr} {o : HO} (h : H a = some o) (h' : H b = none) : a ≠ b := by
  intro e; subst e; rw [h] at h'; cases h'
section
variable (P : Program) (w : World)
def ObjOk (H : Hp) (h : Heap) (a : Addr) : HO → Prop
  | .lst xs => xs.length ≤ sizeLine ∧ ∃ (its : List Value) (n : Nat), Vals xs its ∧ h.get? a = some { cls := .type "list", data := .seq its.toArray n }
  | .tup xs => xs.length ≤ sizeLine ∧ ∃ its : List Value, Vals xs its ∧ IsTup h a its.toArray
  | .dK kvs => kvs.length ≤ sizeLine ∧ (a == sysModules) = false ∧ ∃ vs, KV kvs vs ∧ h.DictOf (mixKind P w) a vs
  | .dT kvs => kvs.length ≤ sizeLine ∧ (a == sysModules) = false ∧ ∃ xs : List (List Key × Addr × Value),
      Paired (fun (p : List Key × V) (q : List Key × Addr × Value) => p.1 = q.1 ∧ H q.2.1 = some (.tup (p.1.map kV)) ∧ RelV p.2 q.2.2) kvs xs ∧
      ∃ o es ep, h.get? a = some o ∧ o.ExactDict ∧ o.data = .dict es ep ∧ es.toList = xs.map (entryOfKey (tupleKind (mixKind P w))) ∧ (xs.map (·.1)).Nodup
  | .set S n => h.SetOf (intKind P w) a S n
  | .ins C dx fs => H dx = some (.own a) ∧ fs.length ≤ 1000 ∧ dx ≠ a ∧ h.get? a = some (PySem.W.instObj C dx) ∧
      ∃ mA, h.Ns1 dx mA ∧ (∀ f, RelO (fs.lookup f) (mA f)) ∧ PySem.Within mA (fs.map (·.1))
  | .own _ => ∃ o, h.get? a = some o
  | .xd fs => ∃ mA, h.Ns1 a mA ∧ ∀ f, RelO (fs.lookup f) (mA f)
  | .rng lo hi => ∃ t u v, h.get? a = some { cls := .type "range", data := .fields #[.int lo t, .int hi u, .int 1 v] }
  | .frz o u => h.get? a = some o ∧ ObjOk H h a u
  | .tbl ps => h.get? a = some { cls := .none, data := .fields ps }
  | .met f x => h.get? a = some (PySem.W.methodObj (.ref f) (.ref x))
  | .ext φ => φ h ∧ (∃ o, h.get? a = some o) ∧ ∀ h1 h2 : Heap, φ h1 → (∀ o, h1.get? a = some o → h2.get? a = some o) → φ h2
def HOk (H : Hp) (h : Heap) : Prop := ∀ a o, H a = some o → ObjOk P w H h a o
end
section
variable {P : Program} {w : World} {H H' : Hp} {h h' : Heap} {a : Addr} {o : HO}
theorem ObjOk.lt (x : ObjOk P w H h a o) : a < h.objs.size := by
  cases o with
  | lst xs => obtain ⟨_, _, _, _, e⟩ := x; exact Heap.lt_size e
  | tup xs => obtain ⟨_, _, _, p⟩ := x; exact p.lt
  | dK kvs => obtain ⟨_, _, _, _, o, _, _, e, _⟩ := x; exact Heap.lt_size e
  | dT kvs => obtain ⟨_, _, _, _, o, _, _, e, _⟩ := x; exact Heap.lt_size e
  | set S n => obtain ⟨o, _, _, _, e, _⟩ := x; exact Heap.lt_size e
  | ins C dx fs => obtain ⟨_, _, _, e, _⟩ := x; exact Heap.lt_size e
  | own y => obtain ⟨_, e⟩ := x; exact Heap.lt_size e
  | xd fs => obtain ⟨_, ⟨_, _, _, e, _⟩, _⟩ := x; exact Heap.lt_size e
  | rng lo hi => obtain ⟨_, _, _, e⟩ := x; exact Heap.lt_size e
  | frz ob u => obtain ⟨e, _⟩ := x; exact Heap.lt_size e
  | tbl ps => exact Heap.lt_size (show h.get? a = some _ from x)
  | met f y => exact Heap.lt_size (show h.get? a = some _ from x)
  | ext φ => obtain ⟨_, ⟨_, e⟩, _⟩ := x; exact Heap.lt_size e
theorem Paired.mapP {α β : Type} {F G : α → β → Prop} : ∀ {l₁ : List α} {l₂ : List β}, Paired F l₁ l₂ → (∀ a b, F a b → G a b) → Paired G l₁ l₂
  | _, _, .nil, _ => .nil
  | _, _, .cons r t, f => .cons (f _ _ r) (Paired.mapP t f)
theorem ObjOk.stay (x : ObjOk P w H h a o) (k : ∀ b u, (b = a ∨ H b = some (.own a)) → h.get? b = some u → h'.get? b = some u)
    (ho : ∀ b, H b = some (.own a) → H' b = some (.own a)) (ht : ∀ b xs, H b = some (.tup xs) → H' b = some (.tup xs)) : ObjOk P w H' h' a o := by
  induction o with
  | lst xs => obtain ⟨z, its, n, r, e⟩ := x; exact ⟨z, its, n, r, k _ _ (.inl rfl) e⟩
  | tup xs => obtain ⟨z, its, r, ob, e, c⟩ := x; exact ⟨z, its, r, ob, k _ _ (.inl rfl) e, c⟩
  | dK kvs => obtain ⟨z, y, vs, r, ob, es, ep, e, c⟩ := x; exact ⟨z, y, vs, r, ob, es, ep, k _ _ (.inl rfl) e, c⟩
  | dT kvs =>
    obtain ⟨z, y, xs, r, ob, es, ep, e, c⟩ := x
    exact ⟨z, y, xs, Paired.mapP r fun p q z => ⟨z.1, ht _ _ z.2.1, z.2.2⟩, ob, es, ep, k _ _ (.inl rfl) e, c⟩
  | set S n => obtain ⟨ob, es, ep, t, e, c⟩ := x; exact ⟨ob, es, ep, t, k _ _ (.inl rfl) e, c⟩
  | ins C dx fs =>
    obtain ⟨d, z, ne, e, mA, ⟨od, es, ep, e2, c⟩, r⟩ := x
    exact ⟨ho _ d, z, ne, k _ _ (.inl rfl) e, mA, ⟨od, es, ep, k _ _ (.inr d) e2, c⟩, r⟩
  | own y => obtain ⟨ob, e⟩ := x; exact ⟨ob, k _ _ (.inl rfl) e⟩
  | xd fs => obtain ⟨mA, ⟨od, es, ep, e, c⟩, r⟩ := x; exact ⟨mA, ⟨od, es, ep, k _ _ (.inl rfl) e, c⟩, r⟩
  | rng lo hi => obtain ⟨t, u, v, e⟩ := x; exact ⟨t, u, v, k _ _ (.inl rfl) e⟩
  | frz ob u ih => obtain ⟨e, q⟩ := x; exact ⟨k _ _ (.inl rfl) e, ih q⟩
  | tbl ps =>
    have e : h.get? a = some { cls := .none, data := .fields ps } := x
    show h'.get? a = some { cls := .none, data := .fields ps }
    exact k a _ (.inl rfl) e
  | met f y =>
    have e : h.get? a = some (PySem.W.methodObj (.ref f) (.ref y)) := x
    show h'.get? a = some (PySem.W.methodObj (.ref f) (.ref y))
    exact k a _ (.inl rfl) e
  | ext φ => obtain ⟨p, ⟨o, e⟩, st⟩ := x; exact ⟨st _ _ p fun o q => k _ _ (.inl rfl) q, ⟨o, k _ _ (.inl rfl) e⟩, st⟩
theorem HOk.lt (x : HOk P w H h) (e : H a = some o) : a < h.objs.size := (x a o e).lt
theorem HOk.fresh (x : HOk P w H h) (e : h.objs.size ≤ a) : H a = none := by
  cases q : H a with
  | none => rfl
  | some u => exact absurd (Nat.lt_of_lt_of_le (x.lt q) e) (Nat.lt_irrefl _)
theorem HOk.kept (x : HOk P w H h) (k : ∀ b u, h.get? b = some u → h'.get? b = some u) : HOk P w H h' := fun a o e =>
  (x a o e).stay (fun b u _ q => k b u q) (fun _ q => q) fun _ _ q => q
theorem HOk.laid (x : HOk P w H h) (k : ∀ b u, h.get? b = some u → h'.get? b = some u) (hp : h.objs.size ≤ a) (new : ObjOk P w (upd H a o) h' a o) : HOk P w (upd H a o) h' := fun b u e => by
  have hn := x.fresh hp
  by_cases hb : b = a
  · subst hb; rw [upd_same] at e; cases e; exact new
  · rw [upd_ne hb] at e
    exact (x b u e).stay (fun c v _ q => k c v q) (fun c q => by rw [upd_ne (ne_of_none q hn)]; exact q) fun c xs q => by rw [upd_ne (ne_of_none q hn)]; exact q
end
def Rd (H : Hp) (a : Addr) (u : HO) : Prop := H a = some u ∨ ∃ o, H a = some (.frz o u)
theorem Rd.of {H : Hp} {a : Addr} {u : HO} (h : H a = some u) : Rd H a u := .inl h
theorem Rd.ok {P : Program} {w : World} {H : Hp} {h : Heap} {a : Addr} {u : HO} (r : Rd H a u) (x : HOk P w H h) : ObjOk P w H h a u := by
  rcases r with r | ⟨o, r⟩
  · exact x a u r
  · obtain ⟨_, q⟩ := x a _ r
    exact q
def Mut : Option HO → Prop
  | some (.lst _) => True
  | some (.dK _) => True
  | some (.dT _) => True
  | some (.set _ _) => True
  | some (.ins _ _ _) => True
  | some (.ext _) => True
  | _ => False
section
variable {P : Program} {w : World} {H : Hp} {h h' : Heap} {x e : Addr} {o' : HO}
theorem HOk.write (ok : HOk P w H h) (mu : Mut (H x)) (he : e = x ∨ H e = some (.own x)) (k : ∀ b u, b ≠ e → h.get? b = some u → h'.get? b = some u) (heo : ∃ u, h'.get? e = some u)
    (new : ObjOk P w (upd H x o') h' x o') : HOk P w (upd H x o') h' := fun b u q => by
  have nown : ∀ c y, H c = some (.own y) → c ≠ x := fun c y r z => by subst z; rw [r] at mu; exact mu
  have ntup : ∀ c xs, H c = some (.tup xs) → c ≠ x := fun c xs r z => by subst z; rw [r] at mu; exact mu
  by_cases hb : b = x
  · subst hb; rw [upd_same] at q; cases q; exact new
  · rw [upd_ne hb] at q
    by_cases hbe : b = e
    · have q' : H b = some (.own x) := by
        rcases he with z | z
        · exact absurd (hbe.trans z) hb
        · rw [hbe]; exact z
      rw [q] at q'; cases q'
      obtain ⟨v, hv⟩ := heo
      exact ⟨v, by rw [hbe]; exact hv⟩
    · refine (ok b u q).stay (fun c v hc r => k c v ?_ r) (fun c r => by rw [upd_ne (nown c b r)]; exact r) fun c xs r => by rw [upd_ne (ntup c xs r)]; exact r
      rcases hc with rfl | hc
      · exact hbe
      · rintro rfl
        rcases he with z | z
        · exact nown c b hc z
        · rw [hc] at z; cases z; exact hb rfl
end
structure Un (fs ex : List Addr) (H H' : Hp) (h h' : Heap) : Prop where
  keep : ∀ b o, h.get? b = some o → H b = none → b ∉ fs → b ∉ ex → h'.get? b = some o
  slot : ∀ b o, h.get? b = some o → H b = none → b ∈ fs → b ∉ ex → ∃ sl, h'.get? b = some { o with slots := sl }
  free : ∀ b o, h.get? b = some o → H b = none → b ∉ ex → H' b = none
  there : ∀ b o, h.get? b = some o → b ∉ ex → ∃ o', h'.get? b = some o'
  tups : ∀ b xs, H b = some (.tup xs) → H' b = some (.tup xs)
  frzs : ∀ b o u, H b = some (.frz o u) → H' b = some (.frz o u)
  tbls : ∀ b ps, H b = some (.tbl ps) → ∃ more, H' b = some (.tbl (ps ++ more))
section
variable {fs fs' ex ex' : List Addr} {H H1 H2 : Hp} {h h1 h2 h' : Heap} {a x e : Addr} {o : HO}
theorem Un.any (u : Un fs ex H H1 h h1) {b : Addr} {ob : Obj} (q : h.get? b = some ob) (n : H b = none) (hx : b ∉ ex) : ∃ sl, h1.get? b = some { ob with slots := sl } := by
  by_cases hb : b ∈ fs
  · exact u.slot b ob q n hb hx
  · exact ⟨ob.slots, u.keep b ob q n hb hx⟩
theorem Un.trans (a : Un fs ex H H1 h h1) (b : Un fs ex H1 H2 h1 h2) : Un fs ex H H2 h h2 where
  keep := fun c ob q n hc hx => b.keep c ob (a.keep c ob q n hc hx) (a.free c ob q n hx) hc hx
  slot := fun c ob q n hc hx => by
    obtain ⟨sl, e1⟩ := a.slot c ob q n hc hx
    obtain ⟨sl', e2⟩ := b.slot c _ e1 (a.free c ob q n hx) hc hx
    exact ⟨sl', e2⟩
  free := fun c ob q n hx => by
    obtain ⟨o', e1⟩ := a.there c ob q hx
    exact b.free c o' e1 (a.free c ob q n hx) hx
  there := fun c ob q hx => by
    obtain ⟨o', e1⟩ := a.there c ob q hx
    exact b.there c o' e1 hx
  tups := fun c xs q => b.tups c xs (a.tups c xs q)
  frzs := fun c ob xs q => b.frzs c ob xs (a.frzs c ob xs q)
  tbls := fun c ps q => by
    obtain ⟨m1, e1⟩ := a.tbls c ps q
    obtain ⟨m2, e2⟩ := b.tbls c _ e1
    exact ⟨m1 ++ m2, by rw [e2, Array.append_assoc]⟩
theorem Un.kept (k : ∀ b u, h.get? b = some u → h'.get? b = some u) : Un fs ex H H h h' :=
  ⟨fun b ob q _ _ _ => k b ob q, fun b ob q _ _ _ => ⟨ob.slots, k b ob q⟩, fun _ _ _ n _ => n, fun b ob q _ => ⟨ob, k b ob q⟩, fun _ _ q => q, fun _ _ _ q => q, fun _ ps q => ⟨#[], by rw [q]; simp⟩⟩
theorem Un.refl : Un fs ex H H h h := Un.kept fun _ _ q => q
theorem Un.laid (k : ∀ b u, h.get? b = some u → h'.get? b = some u) (hp : h.objs.size ≤ a) (hn : H a = none) : Un fs ex H (upd H a o) h h' where
  keep := fun b u q _ _ _ => k b u q
  slot := fun b u q _ _ _ => ⟨u.slots, k b u q⟩
  free := fun b u q n _ => by rw [upd_ne (Nat.ne_of_lt (Nat.lt_of_lt_of_le (Heap.lt_size q) hp))]; exact n
  there := fun b u q _ => ⟨u, k b u q⟩
  tups := fun b xs q => by rw [upd_ne (ne_of_none q hn)]; exact q
  frzs := fun b u xs q => by rw [upd_ne (ne_of_none q hn)]; exact q
  tbls := fun b ps q => ⟨#[], by rw [upd_ne (ne_of_none q hn), q]; simp⟩
theorem Un.write (mu : Mut (H x)) (he : e = x ∨ H e = some (.own x)) (k : ∀ b u, b ≠ e → h.get? b = some u → h'.get? b = some u) (heo : ∃ u, h'.get? e = some u) : Un fs ex H (upd H x o) h h' := by
  have hx : ∀ b, H b = none → b ≠ x := fun b n z => by subst z; rw [n] at mu; exact mu
  have hb : ∀ b, H b = none → b ≠ e := fun b n z => by
    subst z
    rcases he with r | r
    · exact hx b n r
    · rw [n] at r; cases r
  have hm : ∀ b u, H b = some u → ¬ Mut (some u) → b ≠ x := fun b u q nm z => by subst z; rw [q] at mu; exact nm mu
  refine ⟨fun b u q n _ _ => k b u (hb b n) q, fun b u q n _ _ => ⟨u.slots, k b u (hb b n) q⟩, fun b u q n _ => by rw [upd_ne (hx b n)]; exact n, fun b u q _ => ?_,
    fun b xs q => by rw [upd_ne (hm b _ q fun z => z)]; exact q, fun b u xs q => by rw [upd_ne (hm b _ q fun z => z)]; exact q, fun b ps q => ⟨#[], by rw [upd_ne (hm b _ q fun z => z), q]; simp⟩⟩
  by_cases hbe : b = e
  · subst hbe; exact heo
  · exact ⟨u, k b u hbe q⟩
theorem Un.mono (u : Un fs ex H H1 h h1) (hs : ∀ b ∈ fs, b ∈ fs') (hx : ∀ b ∈ ex, b ∈ ex') : Un fs' ex' H H1 h h1 :=
  ⟨fun b ob q n hb he => u.keep b ob q n (fun z => hb (hs b z)) fun z => he (hx b z), fun _ _ q n _ he => u.any q n fun z => he (hx _ z), fun b ob q n he => u.free b ob q n fun z => he (hx b z), fun b ob q he => u.there b ob q fun z => he (hx b z), u.tups, u.frzs, u.tbls⟩
end
def trk (h : Heap) (H : Hp) : List Addr := (List.range h.objs.size).filter fun a => (H a).isSome
def hidT (h : Heap) (H : Hp) : Heap := PySem.W.hideAll h (trk h H)
theorem hidT_size (h : Heap) (H : Hp) : (hidT h H).objs.size = h.objs.size := PySem.W.hideAll_size _ _
theorem hidT_get {h : Heap} {H : Hp} {b : Addr} {o : Obj} (e : h.get? b = some o) (n : H b = none) : (hidT h H).get? b = some o :=
  PySem.W.hideAll_get _ e fun hm => by
    have q : (H b).isSome = true := (List.mem_filter.mp hm).2
    rw [n] at q; simp at q
theorem of_hidT {h : Heap} {H : Hp} {b : Addr} {o : Obj} (e : (hidT h H).get? b = some o) : h.get? b = some o ∧ H b = none := by
  have e' : h.get? b = some o := PySem.W.of_hideAll (trk h H) e
  refine ⟨e', ?_⟩
  cases q : H b with
  | none => rfl
  | some x =>
    have hm : b ∈ trk h H := List.mem_filter.mpr ⟨List.mem_range.mpr (Heap.lt_size e'), by simp [q]⟩
    have z : (hidT h H).get? b = none := PySem.W.hideAll_none (trk h H) hm
    rw [z] at e; cases e
def allNews (g h : Heap) (L : Addr) : List (Addr × Obj) := (List.range h.objs.size).filterMap fun a => if a = L ∨ (g.get? a).isSome = true then none else (h.get? a).map fun o => (a, o)
def rest (g h : Heap) (L d : Addr) : List (Addr × Obj) := (allNews g h L).filter fun p => decide (p.1 ≠ d)
end L2
namespace L2
open PySem PySem.Spec PyProof.Rows
structure Mod (K : PySem.W.Frag) (mg : Str → Option Value) (base : Heap) : Prop where
  kin : K.In base
  glob : base.Ns mainGlobals mg
  blt : ∃ mb, base.Ns builtinsNs mb ∧ ∀ x : Str, x ≠ "__name__" → mb x = bootBuiltins x
  nolimit : base.NoLimit
structure Cx where
  prog : Program
  w : World
  K : PySem.W.Frag
  mg : Str → Option Value
  base : Heap
  A : Around
  N : List Str
  s₀ : Shared
  H₀ : Hp
  env : Env
  outer : List Env
  stack : List Env
  ex : List Addr
  fn : Str → Bool
  calm : Bool
  pn : List (Addr × Obj)
  xe : Value → Shared → Prop
def frs (l : List Env) : List Addr := l.filterMap (·.frame)
abbrev Cx.fs (X : Cx) : List Addr := frs X.outer
def Vis (sc : Scope) (x : Str) : Prop := sc.names.lookup x = some .local ∨ sc.names.lookup x = some .cell ∨ sc.names.lookup x = some .free
def Loc (sc : Scope) (x : Str) : Prop := sc.names.lookup x = some .local ∨ sc.names.lookup x = some .cell
def Look (env : Env) (h : Heap) (m : Str → Option Value) (x : Str) (u : Value) : Prop :=
  (env.kindOf x = some .local ∧ m x = some u) ∨ ((env.kindOf x = some .cell ∨ env.kindOf x = some .free) ∧ ∃ c, env.cells.lookup x = some c ∧ h.IsCell c (some u))
structure Cx.Ok (X : Cx) : Prop where
  mod : Mod X.K X.mg X.base
  kind : X.env.scope.kind = .function
  glob : X.env.globals = mainGlobals
  blt : X.env.builtins = builtinsNs
  above : X.s₀.heap.objs.size ≤ X.env.locals
  inj : ∀ x y c, X.env.cells.lookup x = some c → X.env.cells.lookup y = some c → x = y
  has : ∀ x, (X.env.kindOf x = some .cell ∨ X.env.kindOf x = some .free) → ∃ c, X.env.cells.lookup x = some c
  cab : ∀ x c, X.fn x = true → X.env.cells.lookup x = some c → X.s₀.heap.objs.size ≤ c
  hd : X.calm = true → X.A.handled = none
  frames : X.A.frames = some X.stack
  stk : X.stack = X.outer ∨ (X.stack = X.env :: X.outer ∧ X.env.frame = some X.env.locals)
  exf : ∀ b ∈ X.ex, b ≠ X.env.locals ∧ ∀ x c, X.env.cells.lookup x = some c → c ≠ b
  bs : ∀ b o, X.base.get? b = some o → X.s₀.heap.get? b = some o ∧ X.H₀ b = none
  bsz : X.base.objs.size ≤ X.s₀.heap.objs.size
  noex : ∀ b o, X.base.get? b = some o → b ∉ X.ex
  exfs : ∀ b ∈ X.ex, b ∉ X.fs
  funs : X.s₀.heap.FunFrames X.base X.outer
  frf : ∀ b ∈ X.fs, X.H₀ b = none
structure Inv (X : Cx) (pins : List (Addr × Obj)) (σ : List (Option V)) (H : Hp) (s : Shared) : Prop where
  ok : X.Ok
  os : s.os = X.s₀.os
  bare : AllBare s.gens
  base : Un X.fs X.ex X.H₀ H X.s₀.heap s.heap
  loc : ∃ m, s.heap.Ns X.env.locals m ∧ ∀ (i : Nat) (x : Str) (v : V), X.N[i]? = some x → σ[i]? = some (some v) → Vis X.env.scope x → ∃ u, RelV v u ∧ Look X.env s.heap m x u
  cell : ∀ x c, X.env.cells.lookup x = some c → ∃ v, s.heap.IsCell c v
  free : H X.env.locals = none
  freeC : ∀ x c, X.env.cells.lookup x = some c → H c = none
  pin : ∀ p ∈ X.pn ++ pins, s.heap.get? p.1 = some p.2 ∧ H p.1 = none ∧ p.1 ≠ X.env.locals ∧ p.1 ∉ X.fs ∧ ∀ v, p.2.data ≠ .cell v
  hok : HOk X.prog X.w H s.heap
  len : σ.length = X.N.length
section
variable {X : Cx} {pins : List (Addr × Obj)} {σ : List (Option V)} {H H' : Hp} {s : Shared} {h' : Heap}
theorem Cx.Ok.nofr (ok : X.Ok) {b : Addr} {o : Obj} (e : X.base.get? b = some o) : b ∉ X.fs := fun hb => by
  have := (ok.funs.mem hb).1
  rw [e] at this; cases this
theorem Inv.bs (I : Inv X pins σ H s) : ∀ b o, X.base.get? b = some o → s.heap.get? b = some o ∧ H b = none := fun b o e =>
  ⟨I.base.keep b o (I.ok.bs b o e).1 (I.ok.bs b o e).2 (I.ok.nofr e) (I.ok.noex b o e), I.base.free b o (I.ok.bs b o e).1 (I.ok.bs b o e).2 (I.ok.noex b o e)⟩
theorem Inv.bk (I : Inv X pins σ H s) : ∀ b o, X.base.get? b = some o → s.heap.get? b = some o := fun b o e => (I.bs b o e).1
theorem Inv.mod (I : Inv X pins σ H s) : Mod X.K X.mg X.base := I.ok.mod
theorem Inv.kIn (I : Inv X pins σ H s) : X.K.In s.heap := I.ok.mod.kin.keeps I.bk
theorem Inv.nolimit (I : Inv X pins σ H s) : s.heap.NoLimit := I.ok.mod.nolimit.keeps I.bk
theorem Inv.fr (I : Inv X pins σ H s) : ∃ m, Fr X.base X.env.locals s.heap m :=
  let ⟨m, hn, _⟩ := I.loc
  ⟨m, hn, I.bk, Nat.le_trans I.ok.bsz I.ok.above⟩
theorem Inv.lt (I : Inv X pins σ H s) : X.env.locals < s.heap.objs.size := let ⟨_, hn, _⟩ := I.loc; hn.lt
theorem Inv.sz (I : Inv X pins σ H s) : X.s₀.heap.objs.size ≤ s.heap.objs.size := Nat.le_trans I.ok.above (Nat.le_of_lt I.lt)
theorem Inv.nofs (I : Inv X pins σ H s) {a : Addr} (h : s.heap.objs.size ≤ a) : a ∉ X.fs := fun hb => by
  obtain ⟨_, o, ho, _⟩ := I.ok.funs.mem hb
  exact absurd (Nat.lt_of_lt_of_le (Heap.lt_size ho) (Nat.le_trans I.sz h)) (Nat.lt_irrefl _)
theorem Inv.cne (I : Inv X pins σ H s) : ∀ x c, X.env.cells.lookup x = some c → c ≠ X.env.locals := fun x c e z => by
  obtain ⟨v, o, ho, hd⟩ := I.cell x c e
  obtain ⟨m, ⟨o', es, ep, ho', hd', _⟩, _⟩ := I.loc
  rw [z, ho'] at ho; cases ho; rw [hd'] at hd; cases hd
theorem Inv.funs (I : Inv X pins σ H s) : s.heap.FunFrames X.base X.outer := by
  have all : ∀ (l : List Env), (∀ b ∈ frs l, b ∈ X.fs) → X.s₀.heap.FunFrames X.base l → s.heap.FunFrames X.base l := by
    intro l
    induction l with
    | nil => intro _ _; trivial
    | cons env r ih =>
      intro hs hl
      obtain ⟨hk, ⟨L, o, hf, hn, ho, hd⟩, hr⟩ := hl
      have hL : L ∈ X.fs := hs L (by unfold frs; rw [List.filterMap_cons, hf]; exact List.mem_cons_self)
      obtain ⟨sl, e⟩ := I.base.slot L o ho (I.ok.frf L hL) hL fun z => I.ok.exfs L z hL
      exact ⟨hk, ⟨L, _, hf, hn, e, hd⟩, ih (fun b hb => hs b (by unfold frs; rw [List.filterMap_cons, hf]; exact List.mem_cons_of_mem _ hb)) hr⟩
  exact all X.outer (fun _ hb => hb) I.ok.funs
theorem Inv.stack (I : Inv X pins σ H s) : s.heap.FunFrames X.base X.stack := by
  rcases I.ok.stk with e | ⟨e, hf⟩
  · rw [e]; exact I.funs
  · rw [e]
    obtain ⟨m, hn, _⟩ := I.loc
    refine .cons (by rw [I.ok.kind]; decide) hf hn ?_ I.funs
    exact Heap.get?_none_of_le (Nat.le_trans I.ok.bsz I.ok.above)
theorem Inv.stkSub (I : Inv X pins σ H s) : ∀ b ∈ frs X.stack, b ∈ X.env.locals :: X.fs := fun b hb => by
  rcases I.ok.stk with e | ⟨e, hf⟩
  · rw [e] at hb; exact List.mem_cons_of_mem _ hb
  · rw [e] at hb
    unfold frs at hb
    rw [List.filterMap_cons, hf] at hb
    exact hb
theorem Inv.stkFree (I : Inv X pins σ H s) : ∀ b ∈ frs X.stack, H b = none := fun b hb => by
  rcases List.mem_cons.mp (I.stkSub b hb) with e | hb
  · rw [e]; exact I.free
  · obtain ⟨_, o, ho, _⟩ := I.ok.funs.mem hb
    exact I.base.free b o ho (I.ok.frf b hb) fun z => I.ok.exfs b z hb
theorem Inv.step {g' : Array GenState} {t' : Nat} {d' : Drawn} {ch : List Addr} (I : Inv X pins σ H s)
    (hch : ∀ b ∈ ch, (b ∈ X.ex ∨ X.s₀.heap.objs.size ≤ b) ∧ b ≠ X.env.locals ∧ (∀ x c, X.env.cells.lookup x = some c → c ≠ b) ∧ ∀ p ∈ X.pn ++ pins, p.1 ≠ b)
    (keep : ∀ b o, b ≠ X.env.locals → b ∉ X.fs → b ∉ ch → s.heap.get? b = some o → H b = none → h'.get? b = some o)
    (slot : ∀ b o, b ≠ X.env.locals → b ∈ X.fs → b ∉ ch → s.heap.get? b = some o → H b = none → ∃ sl, h'.get? b = some { o with slots := sl }) (free : ∀ b o, b ∉ ch → s.heap.get? b = some o → H b = none → H' b = none)
    (there : ∀ b o, b ∉ ch → s.heap.get? b = some o → ∃ o', h'.get? b = some o')
    (tups : ∀ b xs, H b = some (.tup xs) → H' b = some (.tup xs)) (frzs : ∀ b o u, H b = some (.frz o u) → H' b = some (.frz o u)) (tbls : ∀ b ps, H b = some (.tbl ps) → ∃ more, H' b = some (.tbl (ps ++ more)))
    (ns : ∀ m, s.heap.Ns X.env.locals m → h'.Ns X.env.locals m) (hok : HOk X.prog X.w H' h') (hg : AllBare g') :
    Inv X pins σ H' { s with heap := h', gens := g', drawn := d', toks := t' } := by
  have neL : ∀ b o, X.s₀.heap.get? b = some o → b ≠ X.env.locals := fun b o e => Nat.ne_of_lt (Nat.lt_of_lt_of_le (Heap.lt_size e) I.ok.above)
  have neC : ∀ b o, X.s₀.heap.get? b = some o → b ∉ X.ex → b ∉ ch := fun b o e hx hb => by
    rcases (hch b hb).1 with z | z
    · exact hx z
    · exact absurd (Nat.lt_of_lt_of_le (Heap.lt_size e) z) (Nat.lt_irrefl _)
  have cellK : ∀ x c, X.env.cells.lookup x = some c → ∀ v, s.heap.IsCell c v → h'.IsCell c v := fun x c e v ⟨o, ho, hd⟩ => by
    have nch : c ∉ ch := fun z => (hch c z).2.2.1 x c e rfl
    by_cases hc : c ∈ X.fs
    · obtain ⟨sl, q⟩ := slot c o (I.cne x c e) hc nch ho (I.freeC x c e)
      exact ⟨_, q, hd⟩
    · exact ⟨o, keep c o (I.cne x c e) hc nch ho (I.freeC x c e), hd⟩
  refine ⟨I.ok, I.os, hg, ⟨fun b o e n hb hx => ?_, fun b o e n hb hx => ?_, fun b o e n hx => ?_, fun b o e hx => ?_, fun b xs e => tups b xs (I.base.tups b xs e), fun b o xs e => frzs b o xs (I.base.frzs b o xs e), fun b ps e => ?_⟩, ?_, fun x c e => ?_, ?_, fun x c e => ?_, fun p hp => ?_, hok, I.len⟩
  · exact keep b o (neL b o e) hb (neC b o e hx) (I.base.keep b o e n hb hx) (I.base.free b o e n hx)
  · obtain ⟨sl, e1⟩ := I.base.slot b o e n hb hx
    obtain ⟨sl', e2⟩ := slot b _ (neL b o e) hb (neC b o e hx) e1 (I.base.free b o e n hx)
    exact ⟨sl', e2⟩
  · obtain ⟨o', e1⟩ := I.base.there b o e hx
    exact free b o' (neC b o e hx) e1 (I.base.free b o e n hx)
  · obtain ⟨o', e1⟩ := I.base.there b o e hx
    exact there b o' (neC b o e hx) e1
  · obtain ⟨m1, e1⟩ := I.base.tbls b ps e
    obtain ⟨m2, e2⟩ := tbls b _ e1
    exact ⟨m1 ++ m2, by rw [e2, Array.append_assoc]⟩
  · obtain ⟨m, hn, hl⟩ := I.loc
    refine ⟨m, ns m hn, fun i x v e1 e2 e3 => ?_⟩
    obtain ⟨u, r, l⟩ := hl i x v e1 e2 e3
    refine ⟨u, r, ?_⟩
    rcases l with l | ⟨k, c, e, z⟩
    · exact .inl l
    · exact .inr ⟨k, c, e, cellK x c e _ z⟩
  · obtain ⟨v, z⟩ := I.cell x c e
    exact ⟨v, cellK x c e v z⟩
  · obtain ⟨m, ⟨o, _, _, ho, _⟩, _⟩ := I.loc
    exact free _ o (fun z => (hch _ z).2.1 rfl) ho I.free
  · obtain ⟨v, o, ho, hd⟩ := I.cell x c e
    exact free c o (fun z => (hch c z).2.2.1 x c e rfl) ho (I.freeC x c e)
  · obtain ⟨e, n, ne, nf, d⟩ := I.pin p hp
    have nch : p.1 ∉ ch := fun z => (hch p.1 z).2.2.2 p hp rfl
    exact ⟨keep p.1 p.2 ne nf nch e n, free p.1 p.2 nch e n, ne, nf, d⟩
theorem Inv.un {t' : Nat} (I : Inv X pins σ H s) (u : Un X.fs [] H H' s.heap h') (hok : HOk X.prog X.w H' h') : Inv X pins σ H' { s with heap := h', toks := t' } := by
  obtain ⟨m, ⟨o, es, ep, ho, r⟩, _⟩ := id I.loc
  obtain ⟨sl, hL⟩ := u.any ho I.free (by simp)
  exact I.step (g' := s.gens) (d' := s.drawn) (ch := []) (fun _ z => nomatch z) (fun b o _ hb _ e n => u.keep b o e n hb (by simp)) (fun b o _ hb _ e n => u.slot b o e n hb (by simp)) (fun b o _ e n => u.free b o e n (by simp)) (fun b o _ e => u.there b o e (by simp)) u.tups u.frzs u.tbls (fun m' hm => by
    obtain ⟨o', es', ep', ho', r'⟩ := hm
    rw [ho] at ho'; cases ho'
    exact ⟨_, es', ep', hL, r'⟩) hok I.bare
theorem Inv.call {g' : Array GenState} {t' : Nat} {d' : Drawn} {ch : List Addr} (I : Inv X pins σ H s) (u : Un (frs X.stack) ch H H' s.heap h') (hok : HOk X.prog X.w H' h') (hg : AllBare g')
    (hch : ∀ b ∈ ch, (b ∈ X.ex ∨ X.s₀.heap.objs.size ≤ b) ∧ b ≠ X.env.locals ∧ (∀ x c, X.env.cells.lookup x = some c → c ≠ b) ∧ ∀ p ∈ X.pn ++ pins, p.1 ≠ b) :
    Inv X pins σ H' { s with heap := h', gens := g', drawn := d', toks := t' } := by
  obtain ⟨m, ⟨o, es, ep, ho, r⟩, _⟩ := id I.loc
  obtain ⟨sl, hL⟩ := u.any ho I.free fun z => (hch _ z).2.1 rfl
  exact I.step (ch := ch) hch (fun b o hL hb hc e n => u.keep b o e n (fun z => (List.mem_cons.mp (I.stkSub b z)).elim hL hb) hc) (fun b o _ _ hc e n => u.any e n hc) (fun b o hc e n => u.free b o e n hc) (fun b o hc e => u.there b o e hc) u.tups u.frzs u.tbls (fun m' hm => by
    obtain ⟨o', es', ep', ho', r'⟩ := hm
    rw [ho] at ho'; cases ho'
    exact ⟨_, es', ep', hL, r'⟩) hok hg
theorem Inv.turned {t' : Nat} {it : Addr} (I : Inv X pins σ H s) (k : ∀ b o, b ≠ it → s.heap.get? b = some o → h'.get? b = some o) (hn : H it = none) (hL : it ≠ X.env.locals)
    (h1 : it ∈ X.ex ∨ X.s₀.heap.objs.size ≤ it) (h2 : ∀ x c, X.env.cells.lookup x = some c → c ≠ it) (h3 : ∀ p ∈ X.pn ++ pins, p.1 ≠ it) : Inv X pins σ H { s with heap := h', toks := t' } := by
  have nit : ∀ b u, H b = some u → b ≠ it := fun b u e z => by rw [z, hn] at e; cases e
  refine I.step (g' := s.gens) (d' := s.drawn) (ch := [it]) (fun b hb => ?_) (fun b o _ _ hc e _ => k b o (fun z => hc (by simp [z])) e) (fun b o _ _ hc e _ => ⟨o.slots, k b o (fun z => hc (by simp [z])) e⟩) (fun _ _ _ _ n => n)
    (fun b o hc e => ⟨o, k b o (fun z => hc (by simp [z])) e⟩) (fun _ _ e => e) (fun _ _ _ e => e) (fun b ps e => ⟨#[], by rw [e]; simp⟩) (fun m hm => ?_) (fun b u e => ?_) I.bare
  · have e : b = it := by simpa using hb
    subst e
    exact ⟨h1, hL, h2, h3⟩
  · obtain ⟨o, es, ep, ho, r⟩ := hm
    exact ⟨o, es, ep, k _ o (Ne.symm hL) ho, r⟩
  · refine (I.hok b u e).stay (fun c v hc q => k c v ?_ q) (fun _ q => q) fun _ _ q => q
    rcases hc with z | z
    · rw [z]; exact nit b u e
    · exact nit c _ z
theorem Inv.tok (I : Inv X pins σ H s) (t : Nat) : Inv X pins σ H { s with toks := t } := I.un (h' := s.heap) (t' := t) Un.refl I.hok
theorem Inv.kept {t' : Nat} (I : Inv X pins σ H s) (k : ∀ b u, s.heap.get? b = some u → h'.get? b = some u) : Inv X pins σ H { s with heap := h', toks := t' } := I.un (Un.kept k) (I.hok.kept k)
theorem Inv.laid {a : Addr} {o : HO} {t' : Nat} (I : Inv X pins σ H s) (k : ∀ b u, s.heap.get? b = some u → h'.get? b = some u) (hp : s.heap.objs.size ≤ a) (new : ObjOk X.prog X.w (upd H a o) h' a o) :
    Inv X pins σ (upd H a o) { s with heap := h', toks := t' } := I.un (Un.laid k hp (I.hok.fresh hp)) (I.hok.laid k hp new)
theorem Inv.write {x e : Addr} {o : HO} {t' : Nat} (I : Inv X pins σ H s) (mu : Mut (H x)) (he : e = x ∨ H e = some (.own x)) (k : ∀ b u, b ≠ e → s.heap.get? b = some u → h'.get? b = some u) (heo : ∃ u, h'.get? e = some u)
    (new : ObjOk X.prog X.w (upd H x o) h' x o) : Inv X pins σ (upd H x o) { s with heap := h', toks := t' } := I.un (Un.write mu he k heo) (I.hok.write mu he k heo new)
theorem Inv.weak {σ' : List (Option V)} (I : Inv X pins σ H s) (hl : σ'.length = σ.length) (w : ∀ (i : Nat) v, σ'[i]? = some (some v) → σ[i]? = some (some v)) : Inv X pins σ' H s :=
  ⟨I.ok, I.os, I.bare, I.base, let ⟨m, hn, hl'⟩ := I.loc; ⟨m, hn, fun i x v e1 e2 e3 => hl' i x v e1 (w i v e2) e3⟩, I.cell, I.free, I.freeC, I.pin, I.hok, hl.trans I.len⟩
def Calm (X : Cx) : Prop := X.calm = true ∨ ∃ (ea C : Addr) (dx : Option Addr) (vs : Array Value) (sl : Array (Option Value)), X.A.handled = some (.ref ea) ∧ vs[2]? = some Value.none ∧ (ea, (⟨.ref C, dx, .fields vs, sl⟩ : Obj)) ∈ X.pn
theorem calm0 {X : Cx} (h : X.calm = true) : Calm X := .inl h
theorem Inv.calm (I : Inv X pins σ H s) (c : Calm X) : Hd X.A s.heap := by
  rcases c with c | ⟨ea, C, dx, vs, sl, h1, h2, h3⟩
  · exact .inl (I.ok.hd c)
  · exact .inr ⟨ea, C, dx, vs, sl, h1, (I.pin _ (List.mem_append_left _ h3)).1, h2⟩
theorem Inv.pins_of {pins' : List (Addr × Obj)} (I : Inv X pins σ H s) (h : ∀ p ∈ pins', s.heap.get? p.1 = some p.2 ∧ H p.1 = none ∧ p.1 ≠ X.env.locals ∧ p.1 ∉ X.fs ∧ ∀ v, p.2.data ≠ .cell v) : Inv X pins' σ H s :=
  ⟨I.ok, I.os, I.bare, I.base, I.loc, I.cell, I.free, I.freeC, fun p hp => (List.mem_append.mp hp).elim (fun z => I.pin p (List.mem_append_left _ z)) (h p), I.hok, I.len⟩
theorem nodup_ix {N : List Str} (hN : N.Nodup) {i j : Nat} {x : Str} (a : N[i]? = some x) (b : N[j]? = some x) : i = j := by
  obtain ⟨h1, e1⟩ := List.getElem?_eq_some_iff.mp a
  obtain ⟨h2, e2⟩ := List.getElem?_eq_some_iff.mp b
  exact (List.getElem_inj hN).mp (e1.trans e2.symm)
theorem store_ok2 {M : Model} {A : Around} {E : Value → Shared → Prop} {i : Nat} {x : Str} {v : V} {u : Value} {Q : Unit → Shared → Prop} (I : Inv X pins σ H s) (hN : X.N.Nodup) (hi : X.N[i]? = some x) (hx : Loc X.env.scope x) (r : RelV v u)
    (h : ∀ s', Inv X pins (σ.set i (some v)) H s' → (∃ a, Heap.SameBut a s.heap s'.heap ∧ (a = X.env.locals ∨ X.env.cells.lookup x = some a)) → Q () s') (hf : X.fn x = true ∨ X.env.scope.names.lookup x = some .local := by first | exact .inl rfl | exact .inr rfl | assumption) : wpAny M A (storeName X.env x u) Q E s := by
  obtain ⟨m, hn, hl⟩ := id I.loc
  have hcls : (X.env.scope.kind == .class || (X.env.scope.kind == .module && X.env.locals != X.env.globals)) = false := by rw [I.ok.kind]; rfl
  have hiσ : i < σ.length := by rw [I.len]; exact (List.getElem?_eq_some_iff.mp hi).1
  have cne := I.cne
  have tracked : ∀ {a : Addr} {h' : Heap}, (∃ o, s.heap.get? a = some o ∧ H a = none) → Heap.SameBut a s.heap h' → HOk X.prog X.w H h' := fun {a h'} ha hs b ob e => by
    obtain ⟨_, _, hfree⟩ := ha
    refine (I.hok b ob e).stay (fun c w' hc q => (hs.2 c ?_).trans q) (fun _ q => q) fun _ _ q => q
    rintro rfl
    rcases hc with rfl | hc
    · rw [hfree] at e; cases e
    · rw [hfree] at hc; cases hc
  rcases hx with hk | hk
  · refine wpAny_storeName_local hk hn (fun h' hn' hs => ?_) hcls
    obtain ⟨oL, _, _, hoL, _⟩ := id hn
    refine h _ ⟨I.ok, I.os, I.bare, ⟨fun b o e n hb hx => ?_, fun b o e n hb hx => ?_, I.base.free, fun b o e hx => ?_, I.base.tups, I.base.frzs, I.base.tbls⟩, ⟨_, hn', fun j y v' e1 e2 e3 => ?_⟩, fun y c e => ?_, I.free, I.freeC, fun p hp => ?_, tracked ⟨oL, hoL, I.free⟩ hs, by simpa using I.len⟩ ⟨_, hs, .inl rfl⟩
    · exact (hs.2 b (Nat.ne_of_lt (Nat.lt_of_lt_of_le (Heap.lt_size e) I.ok.above))).trans (I.base.keep b o e n hb hx)
    · obtain ⟨sl, e1⟩ := I.base.slot b o e n hb hx
      exact ⟨sl, (hs.2 b (Nat.ne_of_lt (Nat.lt_of_lt_of_le (Heap.lt_size e) I.ok.above))).trans e1⟩
    · obtain ⟨o', e1⟩ := I.base.there b o e hx
      exact ⟨o', (hs.2 b (Nat.ne_of_lt (Nat.lt_of_lt_of_le (Heap.lt_size e) I.ok.above))).trans e1⟩
    · by_cases hj : j = i
      · subst hj
        rw [hi] at e1; cases e1
        rw [List.getElem?_set_self hiσ] at e2
        cases e2
        exact ⟨u, r, .inl ⟨hk, by simp⟩⟩
      · rw [List.getElem?_set_ne (Ne.symm hj)] at e2
        obtain ⟨u', r', q⟩ := hl j y v' e1 e2 e3
        refine ⟨u', r', ?_⟩
        rcases q with ⟨k, e⟩ | ⟨k, c, e, z⟩
        · refine .inl ⟨k, ?_⟩
          have : y ≠ x := fun e => hj (nodup_ix hN e1 (e ▸ hi))
          simp [this, e]
        · exact .inr ⟨k, c, e, z.sameBut hs (cne y c e)⟩
    · obtain ⟨w', z⟩ := I.cell y c e
      exact ⟨w', z.sameBut hs (cne y c e)⟩
    · obtain ⟨e, n, ne, nf, d⟩ := I.pin p hp
      exact ⟨(hs.2 p.1 ne).trans e, n, ne, nf, d⟩
  · have hfn : X.fn x = true := by
      rcases hf with z | z
      · exact z
      · rw [z] at hk; cases hk
    obtain ⟨c, hc⟩ := I.ok.has x (.inl hk)
    obtain ⟨w', z⟩ := I.cell x c hc
    refine wpAny_storeName_cell I.ok.kind hk hc z (fun h' hc' hs => ?_)
    obtain ⟨oc, hoc, hocd⟩ := id z
    refine h { s with heap := h' } ⟨I.ok, I.os, I.bare, ⟨fun b o e n hb hx => ?_, fun b o e n hb hx => ?_, I.base.free, fun b o e hx => ?_, I.base.tups, I.base.frzs, I.base.tbls⟩, ⟨m, hn.sameBut hs (Ne.symm (cne x c hc)), fun j y v' e1 e2 e3 => ?_⟩, fun y c' e => ?_, I.free, I.freeC, fun p hp => ?_, tracked ⟨oc, hoc, I.freeC x c hc⟩ hs, by simpa using I.len⟩ ⟨c, hs, .inr hc⟩
    · exact (hs.2 b (Nat.ne_of_lt (Nat.lt_of_lt_of_le (Heap.lt_size e) (I.ok.cab x c hfn hc)))).trans (I.base.keep b o e n hb hx)
    · obtain ⟨sl, e1⟩ := I.base.slot b o e n hb hx
      exact ⟨sl, (hs.2 b (Nat.ne_of_lt (Nat.lt_of_lt_of_le (Heap.lt_size e) (I.ok.cab x c hfn hc)))).trans e1⟩
    · obtain ⟨o', e1⟩ := I.base.there b o e hx
      exact ⟨o', (hs.2 b (Nat.ne_of_lt (Nat.lt_of_lt_of_le (Heap.lt_size e) (I.ok.cab x c hfn hc)))).trans e1⟩
    · by_cases hj : j = i
      · subst hj
        rw [hi] at e1; cases e1
        rw [List.getElem?_set_self hiσ] at e2
        cases e2
        exact ⟨u, r, .inr ⟨.inl hk, c, hc, hc'⟩⟩
      · rw [List.getElem?_set_ne (Ne.symm hj)] at e2
        obtain ⟨u', r', q⟩ := hl j y v' e1 e2 e3
        refine ⟨u', r', ?_⟩
        rcases q with q | ⟨k, c', e, z'⟩
        · exact .inl q
        · refine .inr ⟨k, c', e, z'.sameBut hs ?_⟩
          rintro rfl
          exact hj (nodup_ix hN e1 (I.ok.inj _ _ _ e hc ▸ hi))
    · by_cases hcc : c' = c
      · subst hcc; exact ⟨_, hc'⟩
      · obtain ⟨w2, z2⟩ := I.cell y c' e
        exact ⟨w2, z2.sameBut hs hcc⟩
    · obtain ⟨e, n, ne, nf, d⟩ := I.pin p hp
      refine ⟨(hs.2 p.1 ?_).trans e, n, ne, nf, d⟩
      intro q
      rw [q, hoc] at e
      have q' : oc = p.2 := Option.some.inj e
      exact d w' (by rw [← q']; exact hocd)
theorem store_ok {M : Model} {A : Around} {E : Value → Shared → Prop} {i : Nat} {x : Str} {v : V} {u : Value} {Q : Unit → Shared → Prop} (I : Inv X pins σ H s) (hN : X.N.Nodup) (hi : X.N[i]? = some x) (hx : Loc X.env.scope x) (r : RelV v u)
    (h : ∀ s', Inv X pins (σ.set i (some v)) H s' → Q () s') (hf : X.fn x = true ∨ X.env.scope.names.lookup x = some .local := by first | exact .inl rfl | exact .inr rfl | assumption) : wpAny M A (storeName X.env x u) Q E s :=
  store_ok2 I hN hi hx r (fun s' I' _ => h s' I') hf
theorem Inv.call' {s' : Shared} {ch : List Addr} (I : Inv X pins σ H s) (ho : s'.os = s.os) (u : Un (frs X.stack) ch H H' s.heap s'.heap) (hok : HOk X.prog X.w H' s'.heap) (hg : AllBare s'.gens)
    (hch : ∀ b ∈ ch, (b ∈ X.ex ∨ X.s₀.heap.objs.size ≤ b) ∧ b ≠ X.env.locals ∧ (∀ x c, X.env.cells.lookup x = some c → c ≠ b) ∧ ∀ p ∈ X.pn ++ pins, p.1 ≠ b) : Inv X pins σ H' s' := by
  obtain ⟨h', g', d', t', o'⟩ := s'
  have e : o' = s.os := ho
  subst e
  exact I.call (g' := g') (t' := t') (d' := d') u hok hg hch
end
abbrev XK := Value → Option Addr → Hp → Prop
abbrev St := List (Option V)
abbrev VK := V → Hp → Prop
abbrev TE := St → Hp → VK → Prop
abbrev TT := St → Hp → (Bool → Hp → Prop) → Prop
abbrev TA := St → Hp → (List V → Hp → Prop) → Prop
structure Ends where
  nx : St → Hp → Prop
  rt : VK
  bk : St → Hp → Prop := fun _ _ => False
  ct : St → Hp → Prop := fun _ _ => False
abbrev TS := Ends → St → Hp → Prop
def EP (X : Cx) (pins : List (Addr × Obj)) (σ : St) (Q : VK) (u : Value) (s' : Shared) : Prop := ∃ v H', Inv X pins σ H' s' ∧ RelV v u ∧ Q v H'
def TP (X : Cx) (pins : List (Addr × Obj)) (σ : St) (Q : Bool → Hp → Prop) (b : Bool) (s' : Shared) : Prop := ∃ H', Inv X pins σ H' s' ∧ Q b H'
def AP (X : Cx) (pins : List (Addr × Obj)) (σ : St) (Q : List V → Hp → Prop) (us : List Value) (s' : Shared) : Prop := ∃ vs H', Inv X pins σ H' s' ∧ Vals vs us ∧ Q vs H'
def SP (X : Cx) (pins : List (Addr × Obj)) (D : Ends) (f : Flow) (s' : Shared) : Prop :=
  match f with
  | .next => ∃ σ' H', Inv X pins σ' H' s' ∧ D.nx σ' H'
  | .brk => ∃ σ' H', Inv X pins σ' H' s' ∧ D.bk σ' H'
  | .cont => ∃ σ' H', Inv X pins σ' H' s' ∧ D.ct σ' H'
  | .ret u => ∃ v σ' H', Inv X pins σ' H' s' ∧ RelV v u ∧ D.rt v H'
def PE (X : Cx) (e : Expr) (t : TE) : Prop :=
  ∀ (pins : List (Addr × Obj)) (s : Shared) (σ : St) (H : Hp) (Q : VK), Inv X pins σ H s → t σ H Q → wpAny (model X.prog X.w) X.A (eval e X.env) (EP X pins σ Q) X.xe s
def PT (X : Cx) (e : Expr) (t : TT) : Prop :=
  ∀ (pins : List (Addr × Obj)) (s : Shared) (σ : St) (H : Hp) (Q : Bool → Hp → Prop), Inv X pins σ H s → t σ H Q → wpAny (model X.prog X.w) X.A (isTrue e X.env (eval e X.env)) (TP X pins σ Q) X.xe s
def PW (X : Cx) (e : Expr) (t : TT) : Prop :=
  ∀ (whole : Sem Value) (pins : List (Addr × Obj)) (s : Shared) (σ : St) (H : Hp) (Q : Bool → Hp → Prop), Inv X pins σ H s → t σ H Q → wpAny (model X.prog X.w) X.A (isTrue e X.env whole) (TP X pins σ Q) X.xe s
theorem PW.pt {X : Cx} {e : Expr} {t : TT} (h : PW X e t) : PT X e t := h _
def PA (X : Cx) (es : List Expr) (t : TA) : Prop :=
  ∀ (pos : Pos) (pins : List (Addr × Obj)) (s : Shared) (σ : St) (H : Hp) (Q : List V → Hp → Prop), Inv X pins σ H s → t σ H Q → wpAny (model X.prog X.w) X.A (spliced (backTo pos (starEach es X.env))) (AP X pins σ Q) X.xe s
def PS (X : Cx) (st : Stmt) (t : TS) : Prop :=
  ∀ (pins : List (Addr × Obj)) (s : Shared) (σ : St) (H : Hp) (D : Ends), Inv X pins σ H s → t D σ H → wpAny (model X.prog X.w) X.A (exec st X.env) (SP X pins D) X.xe s
def PSs (X : Cx) (st : List Stmt) (t : TS) : Prop :=
  ∀ (pins : List (Addr × Obj)) (s : Shared) (σ : St) (H : Hp) (D : Ends), Inv X pins σ H s → t D σ H → wpAny (model X.prog X.w) X.A (execs st X.env) (SP X pins D) X.xe s
theorem thn {α : Type} {t : Sem α} {Q Q' : α → Shared → Prop} {M : Model} {A : Around} {E : Value → Shared → Prop} {s : Shared} (h : wpAny M A t Q E s) (hQ : ∀ a s, Q a s → Q' a s) : wpAny M A t Q' E s := wpAny_mono h hQ fun _ _ x => x
end L2
namespace L2
open PySem PySem.Spec PyProof.Rows
section
variable {X : Cx}
def tVar (i : Nat) : TE := fun σ H Q => ∃ v, σ[i]? = some (some v) ∧ Q v H
def tC (v : V) : TE := fun _ H Q => Q v H
theorem pe_var {i : Nat} {x : Str} {pos : Pos} (hN : X.N[i]? = some x) (hv : Vis X.env.scope x) (hd : (x == ("__debug__" : Str)) = false := by decide) (hcd : (x == ("__classdict__" : Str)) = false := by decide) : PE X (.Name x pos) (tVar i) := by
  intro pins s σ H Q I h
  obtain ⟨v, e, h⟩ := h
  obtain ⟨m, hn, hl⟩ := I.loc
  obtain ⟨u, r, l⟩ := hl i x v hN e hv
  have fin : EP X pins σ Q u s := ⟨v, H, I, r, h⟩
  rcases l with ⟨hk, hm⟩ | ⟨hk, c, hc, hcell⟩
  · exact wpAny_Name (wpAny_loadName_local I.ok.kind hk hn hm fin) hd
  · rcases hk with hk | hk
    · exact wpAny_Name (wpAny_loadName_cell I.ok.kind hk hc hcell fin) hd
    · exact wpAny_Name (wpAny_loadName_free I.ok.kind hk hc hcell fin hcd) hd
theorem pe_int {i j pos} : PE X (.Constant (.int i) j pos) (tC (.int i)) := fun _ _ _ H _ I h => wpAny_Constant_int ⟨.int i, H, I.tok _, ⟨_, rfl⟩, h⟩
theorem pe_bl {b j pos} : PE X (.Constant (.bool b) j pos) (tC (.bl b)) := fun _ _ _ H _ I h => Constant_bool ⟨.bl b, H, I, rfl, h⟩
theorem pe_non {j pos} : PE X (.Constant .none j pos) (tC .non) := fun _ _ _ H _ I h => Constant_none ⟨.non, H, I, rfl, h⟩
theorem pe_str {x j pos} : PE X (.Constant (.str x) j pos) (tC (.str x)) := fun _ _ _ H _ I h => Calls.Constant_str ⟨.str x, H, I.tok _, ⟨_, rfl⟩, h⟩
def Gl (X : Cx) (x : Str) : Prop := X.env.kindOf x = some .globalImplicit
theorem ld_glob {E : Value → Shared → Prop} {pins : List (Addr × Obj)} {s : Shared} {σ : St} {H : Hp} {x : Str} {u : Value} {pos : Pos} {Q : Value → Shared → Prop} (I : Inv X pins σ H s) (hg : Gl X x) (hm : X.mg x = some u) (h : Q u s)
    (hd : (x == ("__debug__" : Str)) = false := by decide) : wpAny (model X.prog X.w) X.A (eval (.Name x pos) X.env) Q E s :=
  Calls.Name_function_global I.ok.kind hg (Calls.loadGlobal_global (by rw [I.ok.glob]; exact I.mod.glob.keeps I.bk) hm h) hd
theorem ld_blt {E : Value → Shared → Prop} {pins : List (Addr × Obj)} {s : Shared} {σ : St} {H : Hp} {x : Str} {u : Value} {pos : Pos} {Q : Value → Shared → Prop} (I : Inv X pins σ H s) (hg : Gl X x) (hm : X.mg x = none) (hv : bootBuiltins x = some u) (h : Q u s)
    (hn : x ≠ "__name__" := by decide) (hd : (x == ("__debug__" : Str)) = false := by decide) : wpAny (model X.prog X.w) X.A (eval (.Name x pos) X.env) Q E s := by
  obtain ⟨mb, h1, h2⟩ := I.mod.blt
  exact Calls.Name_function_global I.ok.kind hg (Calls.loadGlobal_builtin (by rw [I.ok.glob]; exact I.mod.glob.keeps I.bk) hm (by rw [I.ok.blt]; exact h1.keeps I.bk) ((h2 x hn).trans hv) h) hd
theorem pe_glob {x : Str} {v : V} {u : Value} {pos : Pos} (hg : Gl X x) (hm : X.mg x = some u) (r : RelV v u) (hd : (x == ("__debug__" : Str)) = false := by decide) : PE X (.Name x pos) (tC v) :=
  fun _ _ _ H _ I h => ld_glob I hg hm ⟨v, H, I, r, h⟩ hd
theorem pe_bltn {x : Str} {v : V} {u : Value} {pos : Pos} (hg : Gl X x) (hm : X.mg x = none) (hv : bootBuiltins x = some u) (r : RelV v u) (hn : x ≠ "__name__" := by decide) (hd : (x == ("__debug__" : Str)) = false := by decide) : PE X (.Name x pos) (tC v) :=
  fun _ _ _ H _ I h => ld_blt I hg hm hv ⟨v, H, I, r, h⟩ hn hd
variable {a b : Expr} {ta tb : TE} {pos : Pos}
def tB (t : TE) : TT := fun σ H Q => t σ H fun x H1 => ∃ c, x = .bl c ∧ Q c H1
theorem pt_val {e : Expr} {t : TE} (h : PE X e t) (he : ∀ whole, isTrue e X.env whole = (do let v ← whole; standAt e.pos; holding [v] (truthy v)) := by intro _; rfl) : PT X e (tB t) := by
  intro pins s σ H Q I hw
  refine isTrue_plain (thn (h pins s σ H _ I hw) fun v s1 ⟨x, H1, I1, r1, q1⟩ => ?_) (he _)
  obtain ⟨d, rfl, q⟩ := q1
  cases r1
  exact wpAny_truthy_bool ⟨H1, I1, q⟩
variable {tA tB' : TT} {rest : List Expr}
def tAnd (t u : TT) : TT := fun σ H Q => t σ H fun c H1 => if c = true then u σ H1 Q else Q false H1
def tOr (t u : TT) : TT := fun σ H Q => t σ H fun c H1 => if c = true then Q true H1 else u σ H1 Q
def tNot (t : TT) : TT := fun σ H Q => t σ H fun c H1 => Q (!c) H1
theorem pw_or1 (ha : PT X a tA) : PW X (.BoolOp .Or [a] pos) tA := by
  intro wh pins s σ H Q I h
  refine isTrue_or (thn (ha pins s σ H Q I h) fun c s1 e => ?_)
  cases c with
  | false => exact isTrue_or_nil e
  | true => exact e
theorem pw_or (ha : PT X a tA) (hb : PW X (.BoolOp .Or (b :: rest) pos) tB') : PW X (.BoolOp .Or (a :: b :: rest) pos) (tOr tA tB') := by
  intro wh pins s σ H Q I h
  refine isTrue_or (thn (ha pins s σ H _ I h) fun c s1 ⟨H1, I1, q1⟩ => ?_)
  cases c with
  | true => exact ⟨H1, I1, q1⟩
  | false => exact hb wh pins s1 σ H1 Q I1 q1
theorem pt_not (ha : PT X a tA) : PT X (.UnaryOp .Not a pos) (tNot tA) := by
  intro pins s σ H Q I h
  exact isTrue_not (ha pins s σ H (fun c H1 => Q (!c) H1) I h)
def tAndV (ta tb : TE) : TE := fun σ H Q => ta σ H fun x H1 => ∃ c, x = .bl c ∧ if c = true then tb σ H1 Q else Q (.bl false) H1
def tOrV (ta tb : TE) : TE := fun σ H Q => ta σ H fun x H1 => ∃ c, x = .bl c ∧ if c = true then Q (.bl true) H1 else tb σ H1 Q
def tNotV (ta : TE) : TE := fun σ H Q => ta σ H fun x H1 => ∃ c, x = .bl c ∧ Q (.bl (!c)) H1
theorem pe_one {op} {t : TE} (h : PE X a t) : PE X (.BoolOp op [a] pos) t := fun pins s σ H Q I hw => BoolOp_one (h pins s σ H Q I hw)
theorem pe_and (ha : PE X a ta) (hb : PE X (.BoolOp .And (b :: rest) pos) tb) : PE X (.BoolOp .And (a :: b :: rest) pos) (tAndV ta tb) := by
  intro pins s σ H Q I h
  refine BoolOp_and (thn (ha pins s σ H _ I h) fun v s1 ⟨x, H1, I1, r1, q1⟩ => ?_)
  obtain ⟨c, rfl, q1⟩ := q1
  cases r1
  refine wpAny_truthy_bool ?_
  cases c with
  | true => exact hb pins s1 σ H1 Q I1 q1
  | false => exact ⟨.bl false, H1, I1, rfl, q1⟩
theorem pe_not (ha : PE X a ta) : PE X (.UnaryOp .Not a pos) (tNotV ta) := by
  intro pins s σ H Q I h
  refine UnaryOp_ (thn (ha pins s σ H _ I h) fun v s1 ⟨x, H1, I1, r1, q1⟩ => ?_)
  obtain ⟨c, rfl, q1⟩ := q1
  cases r1
  exact not_of (wpAny_truthy_bool ⟨.bl (!c), H1, I1, rfl, q1⟩)
def tIf (t : TT) (ta tb : TE) : TE := fun σ H Q => t σ H fun c H1 => if c = true then ta σ H1 Q else tb σ H1 Q
end
end L2
namespace L2
open PySem PySem.Spec PyProof.Rows
def SqL (K : PySem.W.Frag) (H : Hp) (a : Addr) (xs : List V) : Prop :=
  Rd H a (.lst xs) ∨
    ∃ (o : Obj) (its : Array Value) (n : Nat), K.lookup a = some o ∧ o.cls = .type "list" ∧ o.dict = none ∧ o.data = .seq its n ∧ its.size ≤ sizeLine ∧ Vals xs its.toList
def SqT (K : PySem.W.Frag) (H : Hp) (a : Addr) (xs : List V) : Prop :=
  Rd H a (.tup xs) ∨
    ∃ (o : Obj) (its : Array Value) (n : Nat), K.lookup a = some o ∧ o.cls = .type "tuple" ∧ o.data = .seq its n ∧ its.size ≤ sizeLine ∧ Vals xs its.toList
def absV : Value → Option V
  | .none => some .non
  | .bool b => some (.bl b)
  | .int i _ => some (.int i)
  | .str x _ => some (.str x)
  | .bytes b _ => some (.byt b)
  | .float b _ => some (.flt b)
  | .ref a => some (.ref a)
  | .type n => some (.ty n)
  | _ => none
theorem RelV.abs {x : V} {u : Value} (r : RelV x u) : absV u = some x := by
  cases x with
  | non => cases r; rfl
  | bl _ => cases r; rfl
  | int _ => obtain ⟨t, rfl⟩ := r; rfl
  | str _ => obtain ⟨t, rfl⟩ := r; rfl
  | byt _ => obtain ⟨t, rfl⟩ := r; rfl
  | flt _ => obtain ⟨t, rfl⟩ := r; rfl
  | ref _ => cases r; rfl
  | ty _ => cases r; rfl
theorem RelV.inj {x y : V} {u : Value} (r : RelV x u) (q : RelV y u) : x = y := Option.some.inj (r.abs.symm.trans q.abs)
theorem Vals.inj : ∀ {xs ys : List V} {us : List Value}, Vals xs us → Vals ys us → xs = ys
  | _, _, _, .nil, .nil => rfl
  | _, _, _, .cons r t, .cons r' t' => by rw [r.inj r', Vals.inj t t']
section
variable {X : Cx} {pins : List (Addr × Obj)} {σ : St} {H : Hp} {s : Shared} {a : Addr} {xs ys : List V}
theorem SqL.of {K : PySem.W.Frag} (h : H a = some (.lst xs)) : SqL K H a xs := .inl (.inl h)
theorem SqT.of {K : PySem.W.Frag} (h : H a = some (.tup xs)) : SqT K H a xs := .inl (.inl h)
theorem Inv.list (I : Inv X pins σ H s) (h : SqL X.K H a xs) : ∃ its : List Value, Vals xs its ∧ PlainL s.heap a its.toArray ∧ xs.length ≤ sizeLine := by
  rcases h with h | ⟨o, its, n, hk, hc, hd, hs, hz, r⟩
  · obtain ⟨z, its, n, r, e⟩ := h.ok I.hok
    exact ⟨its, r, ⟨_, n, e, rfl, rfl, rfl⟩, z⟩
  · refine ⟨its.toList, r, ⟨o, n, I.kIn a o hk, hc, hd, by simpa using hs⟩, ?_⟩
    have e := r.length
    simp only [Array.length_toList] at e
    omega
theorem Inv.tuple (I : Inv X pins σ H s) (h : SqT X.K H a xs) : ∃ its : List Value, Vals xs its ∧ IsTup s.heap a its.toArray ∧ xs.length ≤ sizeLine := by
  rcases h with h | ⟨o, its, n, hk, hc, hs, hz, r⟩
  · obtain ⟨z, its, r, p⟩ := h.ok I.hok
    exact ⟨its, r, p, z⟩
  · refine ⟨its.toList, r, ⟨o, I.kIn a o hk, hc, n, by simpa using hs⟩, ?_⟩
    have e := r.length
    simp only [Array.length_toList] at e
    omega
theorem Inv.list_inj (I : Inv X pins σ H s) (h : SqL X.K H a xs) (h' : SqL X.K H a ys) : xs = ys := by
  obtain ⟨its, r, ⟨o, n, e, _, _, d⟩, _⟩ := I.list h
  obtain ⟨its', r', ⟨o', n', e', _, _, d'⟩, _⟩ := I.list h'
  rw [e] at e'; cases e'
  rw [d] at d'
  injection d' with d1 _
  have : its = its' := by simpa using congrArg Array.toList d1
  subst this
  exact r.inj r'
end
abbrev Cx.wish (X : Cx) (E : Value → Shared → Prop) : Cx := { X with xe := E }
abbrev Cx.nox (X : Cx) : Cx := X.wish fun _ _ => False
theorem Cx.Ok.wish {X : Cx} (ok : X.Ok) (E : Value → Shared → Prop) : (X.wish E).Ok :=
  ⟨ok.mod, ok.kind, ok.glob, ok.blt, ok.above, ok.inj, ok.has, ok.cab, ok.hd, ok.frames, ok.stk, ok.exf, ok.bs, ok.bsz, ok.noex, ok.exfs, ok.funs, ok.frf⟩
theorem Cx.Ok.unwish {X : Cx} {E : Value → Shared → Prop} (ok : (X.wish E).Ok) : X.Ok :=
  ⟨ok.mod, ok.kind, ok.glob, ok.blt, ok.above, ok.inj, ok.has, ok.cab, ok.hd, ok.frames, ok.stk, ok.exf, ok.bs, ok.bsz, ok.noex, ok.exfs, ok.funs, ok.frf⟩
section
variable {X : Cx} {pins : List (Addr × Obj)} {σ : St} {H : Hp} {s : Shared} {E : Value → Shared → Prop}
theorem Inv.wish (I : Inv X pins σ H s) (E : Value → Shared → Prop) : Inv (X.wish E) pins σ H s := ⟨I.ok.wish E, I.os, I.bare, I.base, I.loc, I.cell, I.free, I.freeC, I.pin, I.hok, I.len⟩
theorem Inv.unwish (I : Inv (X.wish E) pins σ H s) : Inv X pins σ H s := ⟨I.ok.unwish, I.os, I.bare, I.base, I.loc, I.cell, I.free, I.freeC, I.pin, I.hok, I.len⟩
theorem SP.unwish {D : Ends} {f : Flow} {s' : Shared} (h : SP (X.wish E) pins D f s') : SP X pins D f s' := by
  cases f with
  | next => obtain ⟨σ', H', I, q⟩ := h; exact ⟨σ', H', I.unwish, q⟩
  | brk => obtain ⟨σ', H', I, q⟩ := h; exact ⟨σ', H', I.unwish, q⟩
  | cont => obtain ⟨σ', H', I, q⟩ := h; exact ⟨σ', H', I.unwish, q⟩
  | ret u => obtain ⟨v, σ', H', I, r, q⟩ := h; exact ⟨v, σ', H', I.unwish, r, q⟩
theorem PE.nox {e : Expr} {t : TE} (h : PE X.nox e t) : PE X e t := fun pins s σ H Q I hw =>
  wpAny_mono (h pins s σ H Q (I.wish _) hw) (fun _ _ ⟨v, H', I', r, q⟩ => ⟨v, H', I'.unwish, r, q⟩) fun _ _ z => False.elim z
theorem PT.nox {e : Expr} {t : TT} (h : PT X.nox e t) : PT X e t := fun pins s σ H Q I hw =>
  wpAny_mono (h pins s σ H Q (I.wish _) hw) (fun _ _ ⟨H', I', q⟩ => ⟨H', I'.unwish, q⟩) fun _ _ z => False.elim z
theorem PSs.nox {st : List Stmt} {t : TS} (h : PSs X.nox st t) : PSs X st t := fun pins s σ H D I hw =>
  wpAny_mono (h pins s σ H D (I.wish _) hw) (fun _ _ q => q.unwish) fun _ _ z => False.elim z
end
section
variable {X : Cx} {st : Stmt} {rest : List Stmt} {t u : TS} {e : Expr} {te : TE} {pos : Pos}
def tNext : TS := fun D σ H => D.nx σ H
def tSeq (t u : TS) : TS := fun D σ H => t { D with nx := u D } σ H
theorem pss_nil : PSs X [] tNext := fun _ _ σ H _ I h => wpAny_execs_nil ⟨σ, H, I, h⟩
theorem pss_cons (h1 : PS X st t) (h2 : PSs X rest u) : PSs X (st :: rest) (tSeq t u) := by
  intro pins s σ H D I h
  refine wpAny_execs_cons (thn (h1 pins s σ H { D with nx := u D } I h) fun f s1 q => ?_)
  cases f with
  | next =>
    obtain ⟨σ', H', I', q⟩ := q
    exact h2 pins s1 σ' H' D I' q
  | ret v => exact q
  | brk => exact q
  | cont => exact q
theorem pss_one (h1 : PS X st t) : PSs X [st] t := by
  intro pins s σ H D I h
  refine wpAny_execs_cons (thn (h1 pins s σ H D I h) fun f s1 q => ?_)
  cases f with
  | next => exact wpAny_execs_nil q
  | ret v => exact q
  | brk => exact q
  | cont => exact q
def tBreak : TS := fun D σ H => D.bk σ H
def tCont : TS := fun D σ H => D.ct σ H
theorem Inv.quiet {pins : List (Addr × Obj)} {σ : St} {H : Hp} {s : Shared} (I : Inv X pins σ H s) : interactive X.env = false := by simp [interactive, I.ok.kind]
def tDrop (te : TE) : TS := fun D σ H => te σ H fun _ H1 => D.nx σ H1
theorem ps_expr (he : PE X e te) (hs : swapsWith e none pos.line X.env = pure false := by rfl) : PS X (.Expr e pos) (tDrop te) := by
  intro pins s σ H D I h
  exact wpAny_Expr_any (thn (he pins s σ H _ I h) fun v s1 ⟨x, H1, I1, r1, q1⟩ => ⟨σ, H1, I1, q1⟩) I.quiet hs
def tRet (te : TE) : TS := fun D σ H => te σ H D.rt
theorem ps_ret (he : PE X e te) : PS X (.Return (some e) pos) (tRet te) := by
  intro pins s σ H D I h
  exact wpAny_Return_some (thn (he pins s σ H _ I h) fun v s1 ⟨x, H1, I1, r1, q1⟩ => ⟨x, σ, H1, I1, r1, q1⟩)
def tRetN : TS := fun D _ H => D.rt .non H
def tIfS (c : TT) (t u : TS) : TS := fun D σ H => c σ H fun b H1 => if b = true then t D σ H1 else u D σ H1
theorem ps_if {c : Expr} {a b : List Stmt} {tc : TT} (hc : PT X c tc) (ha : PSs X a t) (hb : PSs X b u) : PS X (.If c a b pos) (tIfS tc t u) := by
  intro pins s σ H D I h
  refine wpAny_If (thn (hc pins s σ H _ I h) fun d s1 ⟨H1, I1, q1⟩ => ?_)
  cases d with
  | true => exact ha pins s1 σ H1 D I1 q1
  | false => exact hb pins s1 σ H1 D I1 q1
def tNever : TS := fun _ _ _ => False
end
abbrev TG := V → St → Hp → (St → Hp → Prop) → Prop
abbrev TGs := List V → St → Hp → (St → Hp → Prop) → Prop
def PG (X : Cx) (target : Expr) (t : TG) : Prop :=
  ∀ (pins : List (Addr × Obj)) (s : Shared) (σ : St) (H : Hp) (v : V) (u : Value) (Q : St → Hp → Prop), Inv X pins σ H s → RelV v u → t v σ H Q →
    wpAny (model X.prog X.w) X.A (assign target X.env u) (fun _ s' => ∃ σ' H', Inv X pins σ' H' s' ∧ Q σ' H') X.xe s
def PGs (X : Cx) (ts : List Expr) (t : TGs) : Prop :=
  ∀ (pins : List (Addr × Obj)) (s : Shared) (σ : St) (H : Hp) (vs : List V) (us : List Value) (Q : St → Hp → Prop), Inv X pins σ H s → Vals vs us → t vs σ H Q →
    wpAny (model X.prog X.w) X.A (assignInOrder ((assignEach ts X.env).map (·.2)) us) (fun _ s' => ∃ σ' H', Inv X pins σ' H' s' ∧ Q σ' H') X.xe s
abbrev TSet := V → V → V → Hp → (Hp → Prop) → Prop
section
variable {X : Cx} {pos : Pos}
def gName (i : Nat) : TG := fun v σ H Q => Q (σ.set i (some v)) H
theorem pg_name {i : Nat} {x : Str} (hN : X.N.Nodup) (hi : X.N[i]? = some x) (hx : Loc X.env.scope x) (hf : X.fn x = true ∨ X.env.scope.names.lookup x = some .local := by first | exact .inl rfl | exact .inr rfl | assumption) : PG X (.Name x pos) (gName i) := by
  intro pins s σ H v u Q I r h
  exact wpAny_assign_Name (store_ok I hN hi hx r (fun s' I' => ⟨_, H, I', h⟩) hf)
def gNil : TGs := fun vs σ H Q => vs = [] ∧ Q σ H
def gCons (t : TG) (u : TGs) : TGs := fun vs σ H Q => ∃ v r, vs = v :: r ∧ t v σ H fun σ' H' => u r σ' H' Q
theorem pgs_nil : PGs X [] gNil := by
  intro pins s σ H vs us Q I r h
  obtain ⟨e, h⟩ := h
  subst e
  cases r
  exact assignInOrder_nil ⟨σ, H, I, h⟩
theorem pgs_cons {e : Expr} {es : List Expr} {t : TG} {u : TGs} (h1 : PG X e t) (h2 : PGs X es u)
    (hs : (assignEach (e :: es) X.env).map (·.2) = assign e X.env :: (assignEach es X.env).map (·.2) := by rfl) : PGs X (e :: es) (gCons t u) := by
  intro pins s σ H vs us Q I r h
  obtain ⟨v, vr, e1, h⟩ := h
  subst e1
  cases r with
  | cons r rr =>
    rw [hs]
    refine assignInOrder_cons (thn (h1 pins s σ H _ _ _ I r h) fun _ s1 ⟨σ1, H1, I1, q1⟩ => ?_)
    exact h2 pins s1 σ1 H1 _ _ Q I1 rr q1
def gTup (K : PySem.W.Frag) (n : Nat) (t : TGs) : TG := fun v σ H Q => ∃ a xs, v = .ref a ∧ SqT K H a xs ∧ xs.length = n ∧ t xs σ H Q
theorem pg_tup {es : List Expr} {k : Nat} {t : TGs} {n : Nat} (hc : Calm X) (h : PGs X es t)
    (hn : (assignEach es X.env).length = n := by rfl) (hst : (assignEach es X.env).findIdx? (·.1) = none := by rfl) : PG X (.Tuple es k pos) (gTup X.K n t) := by
  intro pins s σ H v u Q I r hw
  obtain ⟨a, xs, e1, hq, hl, hw⟩ := hw
  subst e1
  cases r
  obtain ⟨its, rv, ht, hz⟩ := I.tuple hq
  refine tup_unpacked (I.calm hc) ht (by simp [hn, ← hl, rv.length]) hst fun h' hx => ?_
  have I1 : Inv X pins σ H { s with heap := h' } := I.kept (t' := s.toks) fun b o e => hx b o (Nat.ne_of_lt (Heap.lt_size e)) e
  exact h pins _ σ H xs _ Q I1 (by simpa using rv) hw
def gSub (to ti : TE) (t : TSet) : TG := fun v σ H Q => to σ H fun o H1 => ti σ H1 fun i H2 => t o i v H2 fun H3 => Q σ H3
def tAsg (te : TE) (g : TG) : TS := fun D σ H => te σ H fun x H1 => g x σ H1 D.nx
theorem ps_set {i : Nat} {x : Str} {e : Expr} {te : TE} {pos' : Pos} (hN : X.N.Nodup) (hi : X.N[i]? = some x) (hx : Loc X.env.scope x) (he : PE X e te) (hs : swapsWith e (some (.Name x pos')) pos.line X.env = pure false := by rfl) (hf : X.fn x = true ∨ X.env.scope.names.lookup x = some .local := by first | exact .inl rfl | exact .inr rfl | assumption) :
    PS X (.Assign [.Name x pos'] e pos) (tAsg te (gName i)) := by
  intro pins s σ H D I h
  refine wpAny_Assign_Name (thn (he pins s σ H _ I h) fun v s1 ⟨y, H1, I1, r1, q1⟩ => ?_) hs
  exact store_ok I1 hN hi hx r1 (fun s2 I2 => ⟨_, H1, I2, q1⟩) hf
end
section
variable {X : Cx} {pos : Pos}
end
structure It where
  go : Nat → Hp → Prop
  yld : Nat → Hp → V → Hp → Prop
  stop : Nat → Hp → Prop
def FpOk (X : Cx) (pins : List (Addr × Obj)) (H : Hp) (b : Addr) : Prop :=
  H b = none ∧ b ≠ X.env.locals ∧ b ∉ X.fs ∧ (b ∈ X.ex ∨ X.s₀.heap.objs.size ≤ b) ∧ (∀ x c, X.env.cells.lookup x = some c → c ≠ b) ∧ ∀ p ∈ X.pn ++ pins, p.1 ≠ b
theorem Inv.fpOk {X : Cx} {pins : List (Addr × Obj)} {σ : St} {H H' : Hp} {s : Shared} {b : Addr} (I : Inv X pins σ H s) (hb : s.heap.objs.size ≤ b) (hn : H' b = none) : FpOk X pins H' b := by
  refine ⟨hn, Nat.ne_of_gt (Nat.lt_of_lt_of_le I.lt hb), I.nofs hb, .inr (Nat.le_trans I.sz hb), fun x c e z => ?_, fun p hp z => ?_⟩
  · obtain ⟨v, q⟩ := I.cell x c e
    exact absurd (Nat.lt_of_lt_of_le q.lt (by rw [z]; exact hb)) (Nat.lt_irrefl _)
  · exact absurd (Nat.lt_of_lt_of_le (Heap.lt_size (I.pin p hp).1) (by rw [z]; exact hb)) (Nat.lt_irrefl _)
structure Turn (P : Program) (w : World) (K : PySem.W.Frag) (tg : Expr) (J : It) (fp : List Addr) (it : Addr) (tn : Nat → Heap → Prop) : Prop where
  mem : it ∈ fp
  obj : ∀ i h, tn i h → ∀ b ∈ fp, ∃ o, h.get? b = some o ∧ ∀ v, o.data ≠ .cell v
  keep : ∀ i h h', tn i h → (∀ b ∈ fp, ∀ o, h.get? b = some o → h'.get? b = some o) → tn i h'
  item : ∀ (X : Cx), X.prog = P → X.w = w → X.K = K → Calm X → ∀ (i : Nat) (pins : List (Addr × Obj)) (s : Shared) (σ : St) (H : Hp) (E : Value → Shared → Prop), Inv X pins σ H s → (∀ b ∈ fp, FpOk X pins H b) → tn i s.heap → J.go i H →
    wpAny (model P w) X.A (pyNext (.ref it)) (fun r s1 => ∃ u, r = some u ∧
      wpAny (model P w) X.A (letOwnedTupleGo tg (.ref it) u) (fun _ s2 => ∃ x H', Inv X pins σ H' s2 ∧ RelV x u ∧ J.yld i H x H' ∧ tn (i + 1) s2.heap ∧ ∀ b ∈ fp, H' b = none) E s1) E s
  done : ∀ (X : Cx), X.prog = P → X.w = w → X.K = K → Calm X → ∀ (i : Nat) (pins : List (Addr × Obj)) (s : Shared) (σ : St) (H : Hp) (E : Value → Shared → Prop), Inv X pins σ H s → (∀ b ∈ fp, FpOk X pins H b) → tn i s.heap → J.stop i H →
    wpAny (model P w) X.A (pyNext (.ref it)) (fun r s1 => r = none ∧ Inv X pins σ H s1) E s
  self : ∀ (A : Around) (i : Nat) (s : Shared) (Q : Value → Shared → Prop) (E : Value → Shared → Prop), tn i s.heap → Q (.ref it) s → wpAny (model P w) A (pyIter (.ref it)) Q E s
abbrev TI := St → Hp → (It → Hp → Prop) → Prop
def PIE (X : Cx) (pins : List (Addr × Obj)) (σ : St) (tg : Expr) (R : It → Hp → Prop) (itv : Value) (s2 : Shared) : Prop :=
  ∃ (it : Addr) (fp : List Addr) (tn : Nat → Heap → Prop) (J : It) (H' : Hp), itv = .ref it ∧ Inv X pins σ H' s2 ∧ Turn X.prog X.w X.K tg J fp it tn ∧ tn 0 s2.heap ∧ (∀ b ∈ fp, FpOk X pins H' b) ∧ R J H'
def PI (X : Cx) (tg iter : Expr) (wi : TI) : Prop :=
  ∀ (pins : List (Addr × Obj)) (s : Shared) (σ : St) (H : Hp) (R : It → Hp → Prop), Inv X pins σ H s → wi σ H R →
    wpAny (model X.prog X.w) X.A (eval iter X.env) (fun v s1 => wpAny (model X.prog X.w) X.A (pyIter v) (PIE X pins σ tg R) X.xe s1) X.xe s
theorem go_of {M : Model} {A : Around} {E : Value → Shared → Prop} {s : Shared} {tg : Expr} {it : Addr} {u : Value} {o : Obj} {n : String} {vs : Array Value} {Q : Unit → Shared → Prop} (ho : s.heap.get? it = some o) (hc : o.cls = .type n) (hd : o.data = .fields vs)
    (hn : ["enumerate", "zip", "dict_itemiterator", "dict_reverseitemiterator", "odict_iterator", "itertools.zip_longest", "itertools.pairwise"].contains n = false) (hQ : Q () s) : wpAny M A (letOwnedTupleGo tg (.ref it) u) Q E s := by
  unfold letOwnedTupleGo
  cases tg <;> first
    | exact wpAny_pure hQ
    | (cases u <;> first
        | exact wpAny_pure hQ
        | (refine wpAny_bind (wpAny_load ho ?_)
           rw [hc, hd]
           show wpAny M A (if (["enumerate", "zip", "dict_itemiterator", "dict_reverseitemiterator", "odict_iterator", "itertools.zip_longest", "itertools.pairwise"].contains n && vs[0]? == some (rawInt _)) = true then _ else _) Q E s
           rw [if_neg (by intro h; rw [hn, Bool.false_and] at h; cases h)]
           exact wpAny_pure hQ))
def Itl (K : PySem.W.Frag) (a : Addr) : It :=
  ⟨fun i H => ∃ xs x, SqL K H a xs ∧ xs[i]? = some x, fun i H x H' => H' = H ∧ ∀ xs, SqL K H a xs → xs[i]? = some x, fun i H => ∃ xs, SqL K H a xs ∧ xs.length ≤ i⟩
def Itt (K : PySem.W.Frag) (a : Addr) : It :=
  ⟨fun i H => ∃ xs x, SqT K H a xs ∧ xs[i]? = some x, fun i H x H' => H' = H ∧ ∀ xs, SqT K H a xs → xs[i]? = some x, fun i H => ∃ xs, SqT K H a xs ∧ xs.length ≤ i⟩
def Itr (lo : Int) (n : Nat) : It := ⟨fun i _ => i < n, fun i H x H' => H' = H ∧ x = .int (lo + i), fun i _ => n ≤ i⟩
theorem turn_list {P : Program} {w : World} {K : PySem.W.Frag} {tg : Expr} (a it : Addr) : Turn P w K tg (Itl K a) [it] it (fun i h => h.IsListIter it a i) where
  mem := by simp
  obj := fun i h st b hb => by
    have e : b = it := by simpa using hb
    subst e
    obtain ⟨o, e, c, d⟩ := st
    exact ⟨o, e, fun v z => by rw [d] at z; cases z⟩
  keep := fun i h h' st k => st.at fun o e => k it (by simp) o e
  item := by
    intro X hP hw hK hc i pins s σ H E I hf st hg
    subst hP hw hK
    obtain ⟨xs, x, hq, hx⟩ := hg
    obtain ⟨its, rv, p, hz⟩ := I.list hq
    obtain ⟨u, hu, ru⟩ := rv.get hx
    obtain ⟨f0, f1, f2, f3, f4, f5⟩ := hf it (by simp)
    refine wpAny_pyNext_list_item st p.isList (x := u) (by simpa using hu) fun h' st' sb => ?_
    have I1 : Inv X pins σ H { s with heap := h' } := I.turned (t' := s.toks) (fun b o hb e => (sb.2 b hb).trans e) f0 f1 f3 f4 f5
    obtain ⟨o, e, c, d⟩ := id st'
    exact ⟨u, rfl, go_of (s := { s with heap := h' }) e c d (by decide) ⟨x, H, I1, ru, ⟨rfl, fun ys hy => by rw [I.list_inj hy hq]; exact hx⟩, st', fun b hb => (hf b hb).1⟩⟩
  done := by
    intro X hP hw hK hc i pins s σ H E I hf st hg
    subst hP hw hK
    obtain ⟨xs, hq, hx⟩ := hg
    obtain ⟨its, rv, p, hz⟩ := I.list hq
    obtain ⟨f0, f1, f2, f3, f4, f5⟩ := hf it (by simp)
    have hl := rv.length
    exact list_end (I.calm hc) st p.isList (by simp; omega) fun h' eb => ⟨rfl, I.turned (t' := s.toks) (fun b o hb e => eb b o hb e) f0 f1 f3 f4 f5⟩
  self := fun _ _ _ _ _ st h => wpAny_pyIter_listiter st h
theorem turn_range {P : Program} {w : World} {K : PySem.W.Frag} {tg : Expr} (it : Addr) (lo : Int) (n : Nat) : Turn P w K tg (Itr lo n) [it] it (fun i h => IsRangeIter h it (lo + (i : Nat) * 1) ((n : Int) - (i : Nat)) 1) where
  mem := by simp
  obj := fun i h st b hb => by
    have e : b = it := by simpa using hb
    subst e
    exact ⟨_, st, fun v z => by
      have z' : Data.fields _ = Data.cell v := z
      cases z'⟩
  keep := fun i h h' st k => k it (by simp) _ st
  item := by
    intro X hP hw hK hc i pins s σ H E I hf st hg
    subst hP hw hK
    obtain ⟨f0, f1, f2, f3, f4, f5⟩ := hf it (by simp)
    refine wpAny_pyNext_range_item st (by have : i < n := hg; omega) fun h' st2 sb => ?_
    have st' : IsRangeIter h' it (lo + ((i + 1 : Nat) : Int) * 1) ((n : Int) - ((i + 1 : Nat) : Int)) 1 := by
      rw [show lo + ((i + 1 : Nat) : Int) * 1 = lo + (i : Nat) * 1 + 1 by omega, show (n : Int) - ((i + 1 : Nat) : Int) = n - (i : Nat) - 1 by omega]
      exact st2
    have I1 : Inv X pins σ H { s with heap := h', toks := s.toks + 1 } := I.turned (fun b o hb e => (sb.2 b hb).trans e) f0 f1 f3 f4 f5
    refine ⟨_, rfl, go_of (s := { s with heap := h', toks := s.toks + 1 }) (n := "range_iterator") st' rfl rfl (by decide) ⟨.int (lo + i), H, I1, ⟨s.toks, ?_⟩, ⟨rfl, rfl⟩, st', fun b hb => (hf b hb).1⟩⟩
    rw [Int.mul_one]
  done := by
    intro X hP hw hK hc i pins s σ H E I hf st hg
    subst hP hw hK
    obtain ⟨f0, f1, f2, f3, f4, f5⟩ := hf it (by simp)
    exact range_end (I.calm hc) st (by have : n ≤ i := hg; omega) fun h' eb => ⟨rfl, I.turned (t' := s.toks) (fun b o hb e => eb b o hb e) f0 f1 f3 f4 f5⟩
  self := fun _ _ _ _ _ st h => wpAny_pyIter_rangeiter st h
end L2
namespace L2
open PySem PySem.Spec PyProof.Rows
section
variable {X : Cx} {tg : Expr}
def iList (K : PySem.W.Frag) (tl : TE) : TI := fun σ H R => tl σ H fun x H1 => ∃ a, x = .ref a ∧ (∃ xs, SqL K H1 a xs) ∧ R (Itl K a) H1
def iTup (K : PySem.W.Frag) (tl : TE) : TI := fun σ H R => tl σ H fun x H1 => ∃ a, x = .ref a ∧ (∃ xs, SqT K H1 a xs) ∧ R (Itt K a) H1
theorem pi_list {l : Expr} {tl : TE} (hl : PE X l tl) : PI X tg l (iList X.K tl) := by
  intro pins s σ H R I h
  refine thn (hl pins s σ H _ I h) fun v s1 ⟨x, H1, I1, r1, q1⟩ => ?_
  obtain ⟨a, e, ⟨xs, hq⟩, q⟩ := q1
  subst e
  cases r1
  obtain ⟨its, rv, p, hz⟩ := I1.list hq
  refine wpAny_pyIter_list p.isList ?_
  refine ⟨s1.heap.objs.size, [s1.heap.objs.size], _, _, H1, rfl, I1.kept (t' := s1.toks) fun b o e => Heap.get?_push_of_some _ e, turn_list a _, ⟨_, Heap.get?_push_size _ rfl, rfl, rfl⟩, fun b hb => ?_, q⟩
  have e : b = s1.heap.objs.size := by simpa using hb
  subst e
  exact I1.fpOk (Nat.le_refl _) (I1.hok.fresh (Nat.le_refl _))
theorem range_it {pins : List (Addr × Obj)} {σ : St} {H : Hp} {s : Shared} {R : It → Hp → Prop} {E : Value → Shared → Prop} {lo hi : Int} {t u v : Tok} {tk : Nat} (I : Inv X pins σ H s) (h1 : -(2 ^ 62) ≤ lo) (h2 : lo < 2 ^ 62) (h3 : -(2 ^ 62) ≤ hi) (h4 : hi < 2 ^ 62)
    (q : R (Itr lo (hi - lo).toNat) H) : wpAny (model X.prog X.w) X.A (pyIter (.ref s.heap.objs.size)) (PIE X pins σ tg R) E { s with heap := s.heap.push { cls := .type "range", data := .fields #[.int lo t, .int hi u, .int 1 v] }, toks := tk } := by
  refine wpAny_pyIter_range (IsRange.new ..) (small_one h1 h2 h3 h4) ?_
  have I1 : Inv X pins σ H { s with heap := s.heap.push { cls := .type "range", data := .fields #[.int lo t, .int hi u, .int 1 v] }, toks := tk } := I.kept fun b o e => Heap.get?_push_of_some _ e
  refine ⟨(s.heap.push { cls := .type "range", data := .fields #[.int lo t, .int hi u, .int 1 v] }).objs.size, [(s.heap.push { cls := .type "range", data := .fields #[.int lo t, .int hi u, .int 1 v] }).objs.size], _, _, H, rfl,
    I1.kept (t' := tk) fun b o e => Heap.get?_push_of_some _ e, turn_range _ lo (hi - lo).toNat, ?_, fun b hb => ?_, q⟩
  · have e1 : lo + ((0 : Nat) : Int) * 1 = lo := by simp
    have e2 : (((hi - lo).toNat : Nat) : Int) - ((0 : Nat) : Int) = Builtin.Range.rangeSize lo hi 1 := by rw [rangeSize_one]; split <;> omega
    show IsRangeIter _ _ (lo + ((0 : Nat) : Int) * 1) ((((hi - lo).toNat : Nat) : Int) - ((0 : Nat) : Int)) 1
    rw [e1, e2]
    exact Heap.get?_push_size _ rfl
  · have e : b = (s.heap.push { cls := .type "range", data := .fields #[.int lo t, .int hi u, .int 1 v] }).objs.size := by simpa using hb
    subst e
    exact I1.fpOk (Nat.le_refl _) (I1.hok.fresh (Nat.le_refl _))
def iRng1 (ta : TA) : TI := fun σ H R => ta σ H fun vs H1 => ∃ j : Int, vs = [.int j] ∧ -(2 ^ 62) ≤ j ∧ j < 2 ^ 62 ∧ R (Itr 0 j.toNat) H1
def iRng2 (ta : TA) : TI := fun σ H R => ta σ H fun vs H1 => ∃ i j : Int, vs = [.int i, .int j] ∧ (-(2 ^ 62) ≤ i ∧ i < 2 ^ 62 ∧ -(2 ^ 62) ≤ j ∧ j < 2 ^ 62) ∧ R (Itr i (j - i).toNat) H1
theorem pi_range1 {a : Expr} {ta : TA} {p pos : Pos} (hg : Gl X "range") (hm : X.mg "range" = none) (ha : PA X [a] ta) (hs : starEach [a] X.env = [(false, eval a X.env)] := by rfl) : PI X tg (.Call (.Name "range" p) [a] [] pos) (iRng1 ta) := by
  intro pins s σ H R I h
  refine Call_ (ld_blt I hg hm boot_range (PyProof.Rows.callWith_type1 (thn (ha pos pins s σ H _ I h) fun us s1 ⟨vs, H1, I1, r1, q1⟩ => ?_) hs rfl))
  obtain ⟨j, e, q1, q2, q⟩ := q1
  subst e
  cases r1 with
  | cons r rr =>
    cases rr
    obtain ⟨t, rfl⟩ := r
    exact call_range_1 (range_it I1 (by omega) (by omega) q1 q2 (by simpa using q))
def tFor (wi : TI) (g : TG) (tb : TS) : TS := fun D σ H => wi σ H fun J H1 => ∃ W : Nat → Nat → St → Hp → Prop, (∃ m, W 0 m σ H1) ∧ ∀ i m σ H, W i m σ H →
  (J.stop i H ∧ D.nx σ H) ∨ (J.go i H ∧ ∃ N : St → Hp → Prop, (∀ σ' H', N σ' H' → ∃ m', m' < m ∧ W (i + 1) m' σ' H') ∧ ∀ x H', J.yld i H x H' → g x σ H' fun σ2 H2 => tb { D with nx := N, ct := N, bk := D.nx } σ2 H2)
def pinsAt (fp : List Addr) (h : Heap) : List (Addr × Obj) := fp.filterMap fun b => (h.get? b).map fun o => (b, o)
theorem mem_pinsAt {fp : List Addr} {h : Heap} {b : Addr} {o : Obj} (hb : b ∈ fp) (e : h.get? b = some o) : (b, o) ∈ pinsAt fp h := List.mem_filterMap.mpr ⟨b, hb, by rw [e]; rfl⟩
theorem of_pinsAt {fp : List Addr} {h : Heap} {p : Addr × Obj} (hp : p ∈ pinsAt fp h) : p.1 ∈ fp ∧ h.get? p.1 = some p.2 := by
  obtain ⟨b, hb, e⟩ := List.mem_filterMap.mp hp
  cases q : h.get? b with
  | none => rw [q] at e; cases e
  | some o =>
    rw [q] at e
    have e' : (b, o) = p := Option.some.inj e
    subst e'
    exact ⟨hb, q⟩
theorem Inv.pinned {pins : List (Addr × Obj)} {σ : St} {H : Hp} {s : Shared} {fp : List Addr} (I : Inv X pins σ H s) (hf : ∀ b ∈ fp, FpOk X pins H b) (ho : ∀ b ∈ fp, ∃ o, s.heap.get? b = some o ∧ ∀ v, o.data ≠ .cell v) : Inv X (pins ++ pinsAt fp s.heap) σ H s :=
  I.pins_of fun p hp => (List.mem_append.mp hp).elim (fun z => I.pin p (List.mem_append_right _ z)) fun z => by
    obtain ⟨hb, e⟩ := of_pinsAt z
    obtain ⟨f0, f1, f2, _⟩ := hf p.1 hb
    obtain ⟨o, e', d⟩ := ho p.1 hb
    rw [e] at e'; cases e'
    exact ⟨e, f0, f1, f2, d⟩
theorem Inv.unpinned {pins pl : List (Addr × Obj)} {σ : St} {H : Hp} {s : Shared} (I : Inv X (pins ++ pl) σ H s) : Inv X pins σ H s := I.pins_of fun p hp => I.pin p (List.mem_append_right _ (List.mem_append_left _ hp))
theorem ps_for {iter : Expr} {body : List Stmt} {wi : TI} {g : TG} {tb : TS} {pos : Pos} (hp : PassesOwn (model X.prog X.w) X.A X.env X.xe) (hc : Calm X) (hi : PI X tg iter wi) (hg : PG X tg g) (hb : PSs X body tb)
    (hs : ∀ x, foldedSetIterable iter X.env x = pure x := by intro _; rfl) : PS X (.For tg iter body [] pos) (tFor wi g tb) := by
  intro pins s σ H D I h
  refine wpAny_For (thn (hi pins s σ H _ I h) fun v s1 h1 => thn h1 fun itv s2 h2 => ?_) hs
  obtain ⟨it, fp, tn, J, H2, e, I2, T, st2, f2, W, ⟨m0, w0⟩, turn⟩ := h2
  subst e
  have stat : ∀ {H' : Hp}, (∀ b ∈ fp, H' b = none) → ∀ b ∈ fp, FpOk X pins H' b := fun hn b hb => ⟨hn b hb, (f2 b hb).2⟩
  refine codeAny_forLoop_any (fun n s' => ∃ i σ' H', Inv X pins σ' H' s' ∧ tn i s'.heap ∧ (∀ b ∈ fp, H' b = none) ∧ W i n σ' H') ?_ m0 ⟨0, σ, H2, I2, st2, fun b hb => (f2 b hb).1, w0⟩
  rintro n s3 ⟨i, σ3, H3, I3, st3, fr3, w3⟩
  rcases turn i n σ3 H3 w3 with ⟨stop, qn⟩ | ⟨go, N, hN, step⟩
  · refine wpAny_passesOwn hp (thn (T.done X rfl rfl rfl hc i pins s3 σ3 H3 X.xe I3 (stat fr3) st3 stop) fun r s4 ⟨hr, I4⟩ => ?_)
    subst hr
    exact wpAny_execs_nil ⟨σ3, H3, I4, qn⟩
  · refine wpAny_passesOwn hp (thn (T.item X rfl rfl rfl hc i pins s3 σ3 H3 X.xe I3 (stat fr3) st3 go) fun r s4 ⟨u, hr, h4⟩ => ?_)
    subst hr
    refine wpAny_passesOwn hp (thn h4 fun _ s5 ⟨x, H5, I5, r5, y5, st5, fr5⟩ => ?_)
    have I5' := I5.pinned (stat fr5) (T.obj _ _ st5)
    refine wpAny_passesOwn hp (thn (hg _ s5 σ3 H5 x u _ I5' r5 (step x H5 y5)) fun _ s6 ⟨σ6, H6, I6, q6⟩ => ?_)
    refine wpAny_passesOwn hp (thn (hb _ s6 σ6 H6 _ I6 q6) fun f s7 q7 => ?_)
    have again : ∀ {σ7 : St} {H7 : Hp}, Inv X (pins ++ pinsAt fp s5.heap) σ7 H7 s7 → N σ7 H7 → ∃ m, m < n ∧ ∃ i σ' H', Inv X pins σ' H' s7 ∧ tn i s7.heap ∧ (∀ b ∈ fp, H' b = none) ∧ W i m σ' H' := fun {σ7 H7} I7 n7 => by
      obtain ⟨m', hm, w7⟩ := hN σ7 H7 n7
      refine ⟨m', hm, i + 1, σ7, H7, I7.unpinned, T.keep _ _ _ st5 fun b hb o e => (I7.pin (b, o) (List.mem_append_right _ (List.mem_append_right _ (mem_pinsAt hb e)))).1, fun b hb => ?_, w7⟩
      obtain ⟨o, e, d⟩ := T.obj _ _ st5 b hb
      exact (I7.pin (b, o) (List.mem_append_right _ (List.mem_append_right _ (mem_pinsAt hb e)))).2.1
    cases f with
    | next => obtain ⟨σ7, H7, I7, n7⟩ := q7; exact again I7 n7
    | cont => obtain ⟨σ7, H7, I7, n7⟩ := q7; exact again I7 n7
    | brk => obtain ⟨σ7, H7, I7, q7⟩ := q7; exact ⟨σ7, H7, I7.unpinned, q7⟩
    | ret v => obtain ⟨x7, σ7, H7, I7, r7, q7⟩ := q7; exact ⟨x7, σ7, H7, I7.unpinned, r7, q7⟩
end
theorem for_range {lo : Int} {n : Nat} {g : TG} {tb : TS} {D : Ends} {σ : St} {H : Hp} (Pv : Nat → St → Hp → Prop) (h0 : Pv 0 σ H)
    (hs : ∀ i σ H, i < n → Pv i σ H → g (.int (lo + i)) σ H fun σ2 H2 => tb { D with nx := Pv (i + 1), ct := Pv (i + 1), bk := D.nx } σ2 H2) (hd : ∀ σ H, Pv n σ H → D.nx σ H) :
    ∃ W : Nat → Nat → St → Hp → Prop, (∃ m, W 0 m σ H) ∧ ∀ i m σ H, W i m σ H →
      ((Itr lo n).stop i H ∧ D.nx σ H) ∨ ((Itr lo n).go i H ∧ ∃ N : St → Hp → Prop, (∀ σ' H', N σ' H' → ∃ m', m' < m ∧ W (i + 1) m' σ' H') ∧ ∀ x H', (Itr lo n).yld i H x H' → g x σ H' fun σ2 H2 => tb { D with nx := N, ct := N, bk := D.nx } σ2 H2) := by
  refine ⟨fun i m σ H => m = n - i ∧ i ≤ n ∧ Pv i σ H, ⟨n, by simp, Nat.zero_le _, h0⟩, ?_⟩
  rintro i m σ H ⟨rfl, hi, p⟩
  by_cases hlt : i < n
  · refine .inr ⟨hlt, Pv (i + 1), fun σ' H' p' => ⟨n - (i + 1), by omega, rfl, hlt, p'⟩, fun x H' y => ?_⟩
    obtain ⟨e, y⟩ := y
    subst e y
    exact hs i σ _ hlt p
  · have e : i = n := by omega
    subst e
    exact .inl ⟨Nat.le_refl _, hd σ H p⟩
end L2
namespace L2
open PySem PySem.Spec PyProof.Rows
abbrev R2 := V → V → Hp → VK → Prop
def OpR (X : Cx) (f : Value → Value → Sem Value) (r : R2) : Prop :=
  ∀ (pins : List (Addr × Obj)) (s : Shared) (σ : St) (H : Hp) (x y : V) (v u : Value) (Q : VK), Inv X pins σ H s → RelV x v → RelV y u → r x y H Q →
    wpAny (model X.prog X.w) X.A (f v u) (EP X pins σ Q) X.xe s
def UnR (X : Cx) (f : Value → Sem Value) (r : V → Hp → VK → Prop) : Prop :=
  ∀ (pins : List (Addr × Obj)) (s : Shared) (σ : St) (H : Hp) (x : V) (v : Value) (Q : VK), Inv X pins σ H s → RelV x v → r x H Q →
    wpAny (model X.prog X.w) X.A (f v) (EP X pins σ Q) X.xe s
def CallR (X : Cx) (f : Value) (r : List V → Hp → VK → Prop) : Prop :=
  ∀ (pins : List (Addr × Obj)) (s : Shared) (σ : St) (H : Hp) (xs : List V) (us : List Value) (Q : VK), Inv X pins σ H s → Vals xs us → r xs H Q →
    wpAny (model X.prog X.w) X.A (call f us) (EP X pins σ Q) X.xe s
def tOp (r : R2) (ta tb : TE) : TE := fun σ H Q => ta σ H fun x H1 => tb σ H1 fun y H2 => r x y H2 Q
def tUn (r : V → Hp → VK → Prop) (ta : TE) : TE := fun σ H Q => ta σ H fun x H1 => r x H1 Q
def rI (C : Int → Int → Prop) (g : Int → Int → V) : R2 := fun x y H Q => ∃ i j, x = .int i ∧ y = .int j ∧ C i j ∧ Q (g i j) H
def rI0 (g : Int → Int → V) : R2 := fun x y H Q => ∃ i j, x = .int i ∧ y = .int j ∧ Q (g i j) H
def rU (g : Int → V) : V → Hp → VK → Prop := fun x H Q => ∃ i, x = .int i ∧ Q (g i) H
section
variable {X : Cx} {a b c : Expr} {ta tb tc : TE} {pos : Pos}
theorem binT (ha : PE X a ta) (hb : PE X b tb) {pins : List (Addr × Obj)} {s : Shared} {σ : St} {H : Hp} {R : V → V → Hp → Prop} (I : Inv X pins σ H s)
    (h : ta σ H fun x H1 => tb σ H1 fun y H2 => R x y H2) {Q : Value → Shared → Prop} {f : Value → Value → Sem Value}
    (hf : ∀ v u s2 x y H2, Inv X pins σ H2 s2 → RelV x v → RelV y u → R x y H2 → wpAny (model X.prog X.w) X.A (f v u) Q X.xe s2) :
    wpAny (model X.prog X.w) X.A (eval a X.env) (fun v s₁ => wpAny (model X.prog X.w) X.A (eval b X.env) (fun u s₂ => wpAny (model X.prog X.w) X.A (f v u) Q X.xe s₂) X.xe s₁) X.xe s := by
  refine thn (ha pins s σ H _ I h) fun v s1 ⟨x, H1, I1, r1, q1⟩ => ?_
  refine thn (hb pins s1 σ H1 _ I1 q1) fun u s2 ⟨y, H2, I2, r2, q2⟩ => ?_
  exact hf v u s2 x y H2 I2 r1 r2 q2
theorem pe_op {op : Operator} {r : R2} (ho : OpR X (binaryOp op) r) (ha : PE X a ta) (hb : PE X b tb) : PE X (.BinOp a op b pos) (tOp r ta tb) := by
  intro pins s σ H Q I h
  exact wpAny_BinOp (binT ha hb I h fun v u s2 x y H2 I2 rx ry q => ho pins s2 σ H2 x y v u Q I2 rx ry q)
theorem pe_un {op : UnaryOp} {r : V → Hp → VK → Prop} (ho : UnR X (unaryOp op) r) (ha : PE X a ta) : PE X (.UnaryOp op a pos) (tUn r ta) := by
  intro pins s σ H Q I h
  exact UnaryOp_ (thn (ha pins s σ H _ I h) fun v s1 ⟨x, H1, I1, r1, q1⟩ => ho pins s1 σ H1 x v Q I1 r1 q1)
theorem opI {f : Value → Value → Sem Value} {C : Int → Int → Prop} {g : Int → Int → Int}
    (rule : ∀ (i j : Int) (t u : Tok) (s : Shared) (Q : Value → Shared → Prop) (E : Value → Shared → Prop), C i j → Q (.int (g i j) s.toks) { s with toks := s.toks + 1 } → wpAny (model X.prog X.w) X.A (f (.int i t) (.int j u)) Q E s) :
    OpR X f (rI C fun i j => .int (g i j)) := by
  intro pins s σ H x y v u Q I rx ry h
  obtain ⟨i, j, rfl, rfl, hc, q⟩ := h
  obtain ⟨t, rfl⟩ := rx
  obtain ⟨t', rfl⟩ := ry
  exact rule i j t t' s _ _ hc ⟨.int (g i j), H, I.tok _, ⟨_, rfl⟩, q⟩
theorem opI0 {f : Value → Value → Sem Value} {g : Int → Int → Int}
    (rule : ∀ (i j : Int) (t u : Tok) (s : Shared) (Q : Value → Shared → Prop) (E : Value → Shared → Prop), Q (.int (g i j) s.toks) { s with toks := s.toks + 1 } → wpAny (model X.prog X.w) X.A (f (.int i t) (.int j u)) Q E s) :
    OpR X f (rI0 fun i j => .int (g i j)) := by
  intro pins s σ H x y v u Q I rx ry h
  obtain ⟨i, j, rfl, rfl, q⟩ := h
  obtain ⟨t, rfl⟩ := rx
  obtain ⟨t', rfl⟩ := ry
  exact rule i j t t' s _ _ ⟨.int (g i j), H, I.tok _, ⟨_, rfl⟩, q⟩
theorem opB0 {f : Value → Value → Sem Value} {g : Int → Int → Bool}
    (rule : ∀ (i j : Int) (t u : Tok) (s : Shared) (Q : Value → Shared → Prop) (E : Value → Shared → Prop), Q (.bool (g i j)) s → wpAny (model X.prog X.w) X.A (f (.int i t) (.int j u)) Q E s) :
    OpR X f (rI0 fun i j => .bl (g i j)) := by
  intro pins s σ H x y v u Q I rx ry h
  obtain ⟨i, j, rfl, rfl, q⟩ := h
  obtain ⟨t, rfl⟩ := rx
  obtain ⟨t', rfl⟩ := ry
  exact rule i j t t' s _ _ ⟨.bl (g i j), H, I, rfl, q⟩
def CDiv (i j : Int) : Prop := 0 < j ∧ j < 1073741824
def CPow (i j : Int) : Prop := 0 ≤ j ∧ j ≤ 1000000 ∧ i.natAbs < 2 ^ 64
def CMul (i j : Int) : Prop := (-(2 ^ 64) < i ∧ i < 2 ^ 64) ∨ (-(2 ^ 64) < j ∧ j < 2 ^ 64)
theorem CMul.ok {i j : Int} (h : CMul i j) : IntMulOk i j := by
  rcases h with ⟨h1, h2⟩ | ⟨h1, h2⟩
  · exact .of_left (intBits_le_64 h1 h2)
  · exact .of_right (intBits_le_64 h1 h2)
theorem op_add : OpR X (binaryOp .Add) (rI0 fun i j => .int (i + j)) := opI0 fun _ _ _ _ _ _ _ q => add_int q
theorem op_mul : OpR X (binaryOp .Mult) (rI CMul fun i j => .int (i * j)) := opI fun _ _ _ _ _ _ _ hc q => mul_int q hc.ok
theorem op_fdiv : OpR X (binaryOp .FloorDiv) (rI CDiv fun i j => .int (i / j)) := opI fun i j _ _ _ _ _ hc q => by
  have h1 : (0 : Int) < j := hc.1
  have h2 : j < 1073741824 := hc.2
  exact floordiv_int (by omega) (by rw [Int.fdiv_eq_ediv_of_nonneg i (by omega)]; exact q) (.inl (PyProof.noPylong_small (by omega)))
theorem op_mod : OpR X (binaryOp .Mod) (rI (fun _ j => 0 < j) fun i j => .int (i % j)) := opI fun i j _ _ _ _ _ hc q => by
  have h1 : (0 : Int) < j := hc
  exact mod_int' (by omega) (by rw [Int.fmod_eq_emod_of_nonneg i (by omega)]; exact q)
theorem op_pow : OpR X (binaryOp .Pow) (rI CPow fun i j => .int (i ^ j.toNat)) := opI fun _ _ _ _ _ _ _ hc q => pow_int_small hc.1 hc.2.1 hc.2.2 q
theorem unI {f : Value → Sem Value} {g : Int → Int}
    (rule : ∀ (i : Int) (t : Tok) (s : Shared) (Q : Value → Shared → Prop) (E : Value → Shared → Prop), Q (.int (g i) s.toks) { s with toks := s.toks + 1 } → wpAny (model X.prog X.w) X.A (f (.int i t)) Q E s) :
    UnR X f (rU fun i => .int (g i)) := by
  intro pins s σ H x v Q I rx h
  obtain ⟨i, rfl, q⟩ := h
  obtain ⟨t, rfl⟩ := rx
  exact rule i t s _ _ ⟨.int (g i), H, I.tok _, ⟨_, rfl⟩, q⟩
theorem un_neg : UnR X (unaryOp .USub) (rU fun i => .int (-i)) := unI fun _ _ _ _ _ q => neg_int q
end
def scal : V → V → Bool
  | .non, .non => true | .non, .int _ => true | .int _, .non => true | .non, .bl _ => true | .bl _, .non => true | .non, .str _ => true | .str _, .non => true
  | .int _, .int _ => true | .bl _, .bl _ => true | .str _, .str _ => true | .byt _, .byt _ => true
  | .int _, .str _ => true | .str _, .int _ => true | .bl _, .str _ => true | .str _, .bl _ => true
  | _, _ => false
def rEq : R2 := fun x y H Q => scal x y = true ∧ Q (.bl (decide (x = y))) H
def rNe : R2 := fun x y H Q => scal x y = true ∧ Q (.bl (!decide (x = y))) H
theorem dec_int {i j : Int} : decide (V.int i = V.int j) = (i == j) := by
  rw [Bool.eq_iff_iff]
  simp
theorem dec_bl {i j : Bool} : decide (V.bl i = V.bl j) = (i == j) := by
  rw [Bool.eq_iff_iff]
  simp
theorem dec_str {i j : Str} : decide (V.str i = V.str j) = (i == j) := by
  rw [Bool.eq_iff_iff]
  simp
theorem dec_byt {i j : Array UInt8} : decide (V.byt i = V.byt j) = (i.toList == j.toList) := by
  rw [Bool.eq_iff_iff]
  cases i
  cases j
  simp
section
variable {X : Cx} {a b c : Expr} {ta tb tc : TE} {pos : Pos}
theorem fin_bl {pins : List (Addr × Obj)} {σ : St} {H : Hp} {s : Shared} {Q : VK} {k k' : Bool} (I : Inv X pins σ H s) (q : Q (.bl k) H) (e : k = k') : EP X pins σ Q (.bool k') s := by
  subst e
  exact ⟨.bl k, H, I, rfl, q⟩
theorem op_eq : OpR X (compareOp .Eq) rEq := by
  intro pins s σ H x y v u Q I rx ry h
  obtain ⟨hs, q⟩ := h
  cases x with
  | non =>
    cases rx
    cases y with
    | non => cases ry; exact PySem.EqNone.eq_none_none (fin_bl I q (by simp))
    | bl j => cases ry; exact PySem.EqNone.eq_none_bool (fin_bl I q (by simp))
    | int j => obtain ⟨t', rfl⟩ := ry; exact PySem.EqNone.eq_none_int (fin_bl I q (by simp))
    | str j => obtain ⟨t', rfl⟩ := ry; exact PySem.EqNone.eq_none_str (fin_bl I q (by simp))
    | _ => exact absurd (show false = true from hs) Bool.false_ne_true
  | bl i =>
    cases rx
    cases y with
    | non => cases ry; exact PySem.EqNone.eq_bool_none (fin_bl I q (by simp))
    | bl j => cases ry; exact eq_bool (fin_bl I q dec_bl)
    | str j => obtain ⟨t', rfl⟩ := ry; exact PySem.EqMixed.eq_bool_str (fin_bl I q (by simp))
    | _ => exact absurd (show false = true from hs) Bool.false_ne_true
  | int i =>
    obtain ⟨t, rfl⟩ := rx
    cases y with
    | non => cases ry; exact PySem.EqNone.eq_int_none (fin_bl I q (by simp))
    | int j => obtain ⟨t', rfl⟩ := ry; exact eq_int (fin_bl I q dec_int)
    | str j => obtain ⟨t', rfl⟩ := ry; exact PySem.EqMixed.eq_int_str (fin_bl I q (by simp))
    | _ => exact absurd (show false = true from hs) Bool.false_ne_true
  | str i =>
    obtain ⟨t, rfl⟩ := rx
    cases y with
    | non => cases ry; exact PySem.EqNone.eq_str_none (fin_bl I q (by simp))
    | bl j => cases ry; exact PySem.EqMixed.eq_str_bool (fin_bl I q (by simp))
    | int j => obtain ⟨t', rfl⟩ := ry; exact PySem.EqMixed.eq_str_int (fin_bl I q (by simp))
    | str j => obtain ⟨t', rfl⟩ := ry; exact eq_str (fin_bl I q dec_str)
    | _ => exact absurd (show false = true from hs) Bool.false_ne_true
  | byt i =>
    obtain ⟨t, rfl⟩ := rx
    cases y with
    | byt j => obtain ⟨t', rfl⟩ := ry; exact PySem.W.eq_bytes (fin_bl I q dec_byt)
    | _ => exact absurd (show false = true from hs) Bool.false_ne_true
  | _ => cases y <;> exact absurd (show false = true from hs) Bool.false_ne_true
theorem op_ne : OpR X (compareOp .NotEq) rNe := by
  intro pins s σ H x y v u Q I rx ry h
  obtain ⟨hs, q⟩ := h
  cases x with
  | non =>
    cases rx
    cases y with
    | non => cases ry; exact PySem.EqNone.ne_none_none (fin_bl I q (by simp))
    | bl j => cases ry; exact PySem.EqNone.ne_none_bool (fin_bl I q (by simp))
    | int j => obtain ⟨t', rfl⟩ := ry; exact PySem.EqNone.ne_none_int (fin_bl I q (by simp))
    | str j => obtain ⟨t', rfl⟩ := ry; exact PySem.EqNone.ne_none_str (fin_bl I q (by simp))
    | _ => exact absurd (show false = true from hs) Bool.false_ne_true
  | bl i =>
    cases rx
    cases y with
    | non => cases ry; exact PySem.EqNone.ne_bool_none (fin_bl I q (by simp))
    | bl j => cases ry; exact ne_bool (fin_bl I q (congrArg not dec_bl))
    | str j => obtain ⟨t', rfl⟩ := ry; exact PySem.EqMixed.ne_bool_str (fin_bl I q (by simp))
    | _ => exact absurd (show false = true from hs) Bool.false_ne_true
  | int i =>
    obtain ⟨t, rfl⟩ := rx
    cases y with
    | non => cases ry; exact PySem.EqNone.ne_int_none (fin_bl I q (by simp))
    | int j => obtain ⟨t', rfl⟩ := ry; exact ne_int (fin_bl I q (congrArg not dec_int))
    | str j => obtain ⟨t', rfl⟩ := ry; exact PySem.EqMixed.ne_int_str (fin_bl I q (by simp))
    | _ => exact absurd (show false = true from hs) Bool.false_ne_true
  | str i =>
    obtain ⟨t, rfl⟩ := rx
    cases y with
    | non => cases ry; exact PySem.EqNone.ne_str_none (fin_bl I q (by simp))
    | bl j => cases ry; exact PySem.EqMixed.ne_str_bool (fin_bl I q (by simp))
    | int j => obtain ⟨t', rfl⟩ := ry; exact PySem.EqMixed.ne_str_int (fin_bl I q (by simp))
    | str j => obtain ⟨t', rfl⟩ := ry; exact ne_str (fin_bl I q (congrArg not dec_str))
    | _ => exact absurd (show false = true from hs) Bool.false_ne_true
  | byt i =>
    obtain ⟨t, rfl⟩ := rx
    cases y with
    | byt j => obtain ⟨t', rfl⟩ := ry; exact PySem.W.ne_bytes (fin_bl I q (congrArg not dec_byt))
    | _ => exact absurd (show false = true from hs) Bool.false_ne_true
  | _ => cases y <;> exact absurd (show false = true from hs) Bool.false_ne_true
theorem op_lt : OpR X (compareOp .Lt) (rI0 fun i j => .bl (decide (i < j))) := opB0 fun _ _ _ _ _ _ _ q => lt_int q
theorem op_le : OpR X (compareOp .LtE) (rI0 fun i j => .bl (decide (i ≤ j))) := opB0 fun _ _ _ _ _ _ _ q => le_int q
theorem nomark (b : Expr) {op : CmpOp} (h : op ≠ .In := by decide) (h2 : op ≠ .NotIn := by decide) : behindInMarks op b = false := by
  have e1 : (op == CmpOp.In) = false := by cases op <;> first | rfl | exact absurd rfl h
  have e2 : (op == CmpOp.NotIn) = false := by cases op <;> first | rfl | exact absurd rfl h2
  cases b <;> simp [behindInMarks, e1, e2]
theorem pe_cmpR {op : CmpOp} {r : R2} (ho : OpR X (compareOp op) r) (ha : PE X a ta) (hb : PE X b tb) (hm : behindInMarks op b = false) : PE X (.Compare a [op] [b] pos) (tOp r ta tb) := by
  intro pins s σ H Q I h
  exact wpAny_Compare1 (binT ha hb I h fun v u s2 x y H2 I2 rx ry q => ho pins s2 σ H2 x y v u Q I2 rx ry q) hm
def tTest (t : TE) : TT := fun σ H Q => t σ H fun x H' => ∃ k, x = .bl k ∧ Q k H'
theorem pt_cmpR {op : CmpOp} {r : R2} (ho : OpR X (compareOp op) r) (ha : PE X a ta) (hb : PE X b tb) (hm : behindInMarks op b = false) : PT X (.Compare a [op] [b] pos) (tTest (tOp r ta tb)) := by
  intro pins s σ H Q I h
  refine wpAny_isTrue_Compare1 (thn (ha pins s σ H _ I h) fun v s1 ⟨x, H1, I1, r1, q1⟩ => thn (hb pins s1 σ H1 _ I1 q1) fun u s2 ⟨y, H2, I2, r2, q2⟩ =>
    thn (ho pins s2 σ H2 x y v u _ I2 r1 r2 q2) fun c s3 ⟨z, H3, I3, r3, k, e, q3⟩ => ?_) hm
  subst e
  cases r3
  exact wpAny_truthy_bool ⟨H3, I3, q3⟩
def tChain (r r' : R2) (ta tb tc : TE) : TE := fun σ H Q => ta σ H fun x H1 => tb σ H1 fun y H2 => r x y H2 fun z H3 => ∃ k, z = .bl k ∧
  (if k = true then tc σ H3 fun w' H4 => r' y w' H4 Q else Q (.bl false) H3)
theorem pe_chain {op op' : CmpOp} {r r' : R2} (ho : OpR X (compareOp op) r) (ho' : OpR X (compareOp op') r') (ha : PE X a ta) (hb : PE X b tb) (hc : PE X c tc)
    (hm : lastMarks [op, op'] [b, c] = false := by with_unfolding_all rfl) : PE X (.Compare a [op, op'] [b, c] pos) (tChain r r' ta tb tc) := by
  intro pins s σ H Q I h
  refine Compare_chain (thn (ha pins s σ H _ I h) fun v s1 ⟨x, H1, I1, r1, q1⟩ => chain_link (thn (hb pins s1 σ H1 _ I1 q1) fun u s2 ⟨y, H2, I2, r2, q2⟩ =>
    thn (ho pins s2 σ H2 x y v u _ I2 r1 r2 q2) fun d s3 ⟨z, H3, I3, r3, k, e, q3⟩ => ?_)) hm
  subst e
  cases r3
  refine wpAny_truthy_bool ?_
  cases k with
  | false => exact ite_ff ⟨.bl false, H3, I3, rfl, q3⟩
  | true => exact ite_tt (chain_last (thn (hc pins s3 σ H3 _ I3 q3) fun w' s4 ⟨z', H4, I4, r4, q4⟩ => ho' pins s4 σ H4 y z' u w' Q I4 r2 r4 q4))
theorem line63 : (sizeLine : Nat) < 2 ^ 63 := by rw [sizeLine_eq]; decide
theorem op_add_str : OpR X (binaryOp .Add) (fun x y H Q => ∃ i j, x = .str i ∧ y = .str j ∧ i.length + j.length ≤ sizeLine ∧ Q (.str (i ++ j)) H) := by
  intro pins s σ H x y v u Q I rx ry h
  obtain ⟨i, j, rfl, rfl, hz, q⟩ := h
  obtain ⟨t, rfl⟩ := rx
  obtain ⟨t', rfl⟩ := ry
  exact add_str (fun t' tk => ⟨.str (i ++ j), H, I.tok _, ⟨_, rfl⟩, q⟩) hz
theorem vals1 {x : V} {us : List Value} (r : Vals [x] us) : ∃ u, us = [u] ∧ RelV x u := by
  cases r with
  | cons r1 r2 => cases r2; exact ⟨_, rfl, r1⟩
theorem vals2 {x y : V} {us : List Value} (r : Vals [x, y] us) : ∃ u w', us = [u, w'] ∧ RelV x u ∧ RelV y w' := by
  cases r with
  | cons r1 r2 =>
    cases r2 with
    | cons r3 r4 => cases r4; exact ⟨_, _, rfl, r1, r3⟩
end
end L2
namespace L2
open PySem PySem.Spec PyProof.Rows
structure ObjM (h : Heap) (x dx C : Addr) (mA : Str → Option Value) : Prop where
  obj : h.get? x = some (PySem.W.instObj C dx)
  ns : h.Ns1 dx mA
  ne : dx ≠ x
theorem lookIn_ns {h : Heap} {dx : Addr} {mA : Str → Option Value} (n : h.Ns1 dx mA) : ∃ od, h.get? dx = some od ∧ ∀ name, PySem.W.lookIn name od = some (mA name) := by
  obtain ⟨o, es, ep, ho, hd, hk, _, hm⟩ := n
  refine ⟨o, ho, fun name => ?_⟩
  have e := hm name
  unfold nsFind findBy at e
  rw [← Array.find?_toList] at e
  unfold PySem.W.lookIn
  rw [hd]
  dsimp only
  split
  · rename_i y q
    rw [q] at e
    exact congrArg some e
  · rename_i q
    rw [q] at e
    have a : es.toList.any (·.refKey) = false := by
      rw [List.any_eq_false]
      intro y hy
      obtain ⟨z, t, hkey⟩ := hk y (Array.mem_toList_iff.mp hy)
      simp [DictEntry.refKey, hkey]
    have a' : ¬ es.toList.any (·.refKey) = true := by rw [a]; exact Bool.false_ne_true
    rw [if_neg a']
    exact congrArg some e
theorem ObjM.look {h : Heap} {x dx C : Addr} {mA : Str → Option Value} (I : ObjM h x dx C mA) : ∃ od, PySem.W.InstAt h x (PySem.W.instObj C dx) C (some od) ∧ ∀ name, PySem.W.lookIn name od = some (mA name) :=
  let ⟨od, ho, hl⟩ := lookIn_ns I.ns
  ⟨od, ⟨I.obj, rfl, rfl, ho⟩, hl⟩
section
variable {prog : Program} {w : World} {A : Around} {E : Value → Shared → Prop} {s : Shared} {K : PySem.W.Frag} {x dx C f : Addr} {mA : Str → Option Value} {name : Str} {v : Value}
theorem get_map {expr : Bool} {Q : Value → Shared → Prop} (X : K.In s.heap) (I : ObjM s.heap x dx C mA) (hg : PySem.W.plainGet K C name = true) (hh : PySem.W.hasDictIn K C = true)
    (ha : PySem.W.findIn K (.ref C) name = some none) (hv : mA name = some v) (hv' : PySem.W.handedIn v = true) (h : Q v { s with toks := s.toks + 1 }) :
    wpAny (model prog w) A (getAttr (.ref x) name expr) Q E s := by
  obtain ⟨od, J, hl⟩ := I.look
  exact PySem.W.get_value X J (PySem.W.plainGet_of hg).1 (PySem.W.findObj_own hh ha rfl (by rw [hl, hv])) hv' h
theorem get_meth {pl : Sem Bool} {Q : Value × List Value → Shared → Prop} (X : K.In s.heap) (I : ObjM s.heap x dx C mA) (hg : PySem.W.plainGet K C name = true)
    (hf : PySem.W.findIn K (.ref C) name = some (some (.ref f))) (ht : PySem.W.isFn K (.ref f) = true) (hv : mA name = none) (h : Q (.ref f, [.ref x]) s) :
    wpAny (model prog w) A (getMethod (.ref x) name pl) Q E s := by
  obtain ⟨od, J, hl⟩ := I.look
  exact PySem.W.method_fn X J (PySem.W.plainGet_of hg).1 (PySem.W.plainGet_of hg).2 hf (beq_iff_eq.mp ht) (by show (PySem.W.lookIn name od).map (·.isSome) = some false; rw [hl, hv]; rfl) h
theorem set_map {ns : List Str} {Q : Unit → Shared → Prop} (X : K.In s.heap) (I : ObjM s.heap x dx C mA)
    (hs : PySem.W.findIn K (.ref C) "__setattr__" = some (some (.builtin "object.__setattr__"))) (hp : PySem.W.plainOver K C = true) (ht : PySem.W.takerIn K C name = some none) (hh : PySem.W.hasDictIn K C = true)
    (hw : PySem.Within mA ns) (hsz : ns.length ≤ sizeLine)
    (h : ∀ h', ObjM h' x dx C (fun y => if y = name then some v else mA y) → Heap.SameBut dx s.heap h' → Q () { s with heap := h', toks := s.toks + 2 }) :
    wpAny (model prog w) A (setAttr (.ref x) name v) Q E s := by
  obtain ⟨od, J, hl⟩ := I.look
  refine PySem.W.set_plain X J hs (PySem.W.osa_open (s := { s with toks := s.toks + 1 }) (r := none) X J hp ht fun b => ?_)
  obtain ⟨cd, hc, hd'⟩ := PySem.W.any_some hh
  have hx : s.heap.get? x = some ⟨.ref C, some dx, .plain, #[]⟩ := I.obj
  refine wpAny_bind (wpAny_pure (wpAny_bind (wpAny_bind (wpAny_loadPart hx (wpAny_bind (PySem.W.Looks.here (s := { s with toks := s.toks + 1 }) (PySem.W.looks_clsIn X hc) ?_))))))
  rw [hd']
  refine wpAny_pure (a := some dx) (wpAny_bind (wpAny_pure (wpAny_bind ?_)))
  refine wpAny_nsSet1 (s := { s with toks := s.toks + 1 }) I.ns fun h' hn2 hs2 => ?_
  obtain ⟨oD, esD, epD, hoD, hdD, hcD⟩ := hn2.count (PySem.Within.cons name v hw)
  refine wpAny_bind (wpAny_lookBehind hoD (by rw [hdD]; exact pastItsLine_dict (Nat.le_trans hcD (by rw [List.length_cons]; omega))) ?_)
  exact wpAny_pure (h _ ⟨(hs2.2 _ (Ne.symm I.ne)).trans I.obj, hn2, I.ne⟩ hs2)
theorem make_map {R : Result → Shared → Prop} {vs : List Value} {kw : List (Str × Value)} (X : K.In s.heap) (hm : PySem.W.makesIn K C = true)
    (hi : PySem.W.findIn K (.ref C) "__init__" = some (some (.ref f))) (hf : PySem.W.typeIn K (.ref f) = some (.type "function"))
    (h : codeAny (model prog w) (A.under (.builtin "type.__call__" ⟨.ref C :: vs, kw⟩)) (.call (.ref f) ⟨.ref (s.heap.objs.size + 1) :: vs, kw⟩) (PySem.W.InitBack (s.heap.objs.size + 1) R)
      { s with heap := (s.heap.push PySem.W.emptyDict).push (PySem.W.instObj C s.heap.objs.size) }) :
    codeAny (model prog w) A (.call (.ref C) ⟨vs, kw⟩) R s := by
  obtain ⟨hh, g, d, t, os⟩ := s
  exact PySem.W.make_core (PySem.W.makes_of X hm) (PySem.W.looks_findIn X hi) (fun self => PySem.W.bind_fn X self hf) (.inl rfl) h
end
def putF (f : Str) (v : V) : List (Str × V) → List (Str × V)
  | [] => [(f, v)]
  | (g, x) :: r => if g = f then (g, v) :: r else (g, x) :: putF f v r
theorem lookup_putF (f g : Str) (v : V) : ∀ fs : List (Str × V), (putF f v fs).lookup g = if g = f then some v else fs.lookup g
  | [] => by
    show List.lookup g [(f, v)] = _
    by_cases h : g = f
    · have hb : (g == f) = true := beq_iff_eq.mpr h
      simp only [List.lookup, hb, if_pos h]
    · have hb : (g == f) = false := beq_eq_false_iff_ne.mpr h
      simp only [List.lookup, hb, if_neg h]
  | (k, x) :: r => by
    have ih := lookup_putF f g v r
    rw [show putF f v ((k, x) :: r) = (if k = f then (k, v) :: r else (k, x) :: putF f v r) from rfl]
    by_cases hk : k = f
    · rw [if_pos hk]
      by_cases h : g = k
      · have hb : (g == k) = true := beq_iff_eq.mpr h
        simp only [List.lookup, hb, if_pos (h.trans hk)]
      · have hb : (g == k) = false := beq_eq_false_iff_ne.mpr h
        simp only [List.lookup, hb, if_neg (fun e : g = f => h (e.trans hk.symm))]
    · rw [if_neg hk]
      by_cases h : g = k
      · have hb : (g == k) = true := beq_iff_eq.mpr h
        simp only [List.lookup, hb, if_neg (fun e : g = f => hk (h.symm.trans e))]
      · have hb : (g == k) = false := beq_eq_false_iff_ne.mpr h
        simp only [List.lookup, hb]
        exact ih
theorem keys_putF (f : Str) (v : V) : ∀ fs : List (Str × V), f ∈ (putF f v fs).map (·.1) ∧ ∀ g, g ∈ fs.map (·.1) → g ∈ (putF f v fs).map (·.1)
  | [] => ⟨by simp [putF], fun g h => by simp at h⟩
  | (k, x) :: r => by
    obtain ⟨i1, i2⟩ := keys_putF f v r
    rw [show putF f v ((k, x) :: r) = (if k = f then (k, v) :: r else (k, x) :: putF f v r) from rfl]
    by_cases hk : k = f
    · rw [if_pos hk]
      subst hk
      exact ⟨by simp, fun g h => by simpa using h⟩
    · rw [if_neg hk]
      refine ⟨?_, fun g h => ?_⟩
      · rw [List.map_cons]
        exact List.mem_cons_of_mem _ i1
      · rw [List.map_cons] at h ⊢
        rcases List.mem_cons.mp h with e | e
        · exact List.mem_cons.mpr (.inl e)
        · exact List.mem_cons_of_mem _ (i2 g e)
theorem length_putF (f : Str) (v : V) : ∀ fs : List (Str × V), (putF f v fs).length ≤ fs.length + 1
  | [] => by simp [putF]
  | (k, x) :: r => by
    have ih := length_putF f v r
    rw [show putF f v ((k, x) :: r) = (if k = f then (k, v) :: r else (k, x) :: putF f v r) from rfl]
    by_cases hk : k = f
    · rw [if_pos hk, List.length_cons, List.length_cons]; omega
    · rw [if_neg hk, List.length_cons, List.length_cons]; omega
theorem RelO.some_of {v : V} {o : Option Value} (r : RelO (some v) o) : ∃ u, o = some u ∧ RelV v u := by
  cases o with
  | none => exact (show False from r).elim
  | some u => exact ⟨u, rfl, r⟩
theorem RelO.none_of {o : Option Value} (r : RelO none o) : o = none := by
  cases o with
  | none => rfl
  | some u => exact (show False from r).elim
theorem handed_of {v : V} {u : Value} (r : RelV v u) : PySem.W.handedIn u = true := by
  cases v with
  | non => cases (show u = Value.none from r); rfl
  | bl b => cases (show u = Value.bool b from r); rfl
  | int i => obtain ⟨t, e⟩ := (show ∃ t, u = Value.int i t from r); cases e; rfl
  | str x => obtain ⟨t, e⟩ := (show ∃ t, u = Value.str x t from r); cases e; rfl
  | byt b => obtain ⟨t, e⟩ := (show ∃ t, u = Value.bytes b t from r); cases e; rfl
  | flt b => obtain ⟨t, e⟩ := (show ∃ t, u = Value.float b t from r); cases e; rfl
  | ref a => cases (show u = Value.ref a from r); rfl
  | ty n => cases (show u = Value.type n from r); rfl
section
variable {P : Program} {w : World} {H H' : Hp} {h h' : Heap} {a C dx : Addr} {fs fs' : List (Str × V)}
theorem ins_get (hok : HOk P w H h) (e : H a = some (.ins C dx fs)) : ∃ mA, ObjM h a dx C mA ∧ (∀ f, RelO (fs.lookup f) (mA f)) ∧ PySem.Within mA (fs.map (·.1)) ∧ fs.length ≤ 1000 ∧ H dx = some (.own a) := by
  obtain ⟨d, z, ne, ob, mA, n, r, q⟩ := (show ObjOk P w H h a (.ins C dx fs) from hok a _ e)
  exact ⟨mA, ⟨ob, n, ne⟩, r, q, z, d⟩
end
structure Cls (K : PySem.W.Frag) (C : Addr) : Prop where
  pg : PySem.W.plainGet K C Str.empty = true
  hd : PySem.W.hasDictIn K C = true
  po : PySem.W.plainOver K C = true
  sa : PySem.W.findIn K (.ref C) "__setattr__" = some (some (.builtin "object.__setattr__"))
theorem Cls.get {K : PySem.W.Frag} {C : Addr} (c : Cls K C) (f : Str) : PySem.W.plainGet K C f = true := c.pg
def NoAttr (K : PySem.W.Frag) (C : Addr) (f : Str) : Prop := PySem.W.findIn K (.ref C) f = some none
theorem NoAttr.taker {K : PySem.W.Frag} {C : Addr} {f : Str} (n : NoAttr K C f) : PySem.W.takerIn K C f = some none := by
  unfold PySem.W.takerIn
  rw [show PySem.W.findIn K (.ref C) f = some none from n]
  rfl
structure Meth (K : PySem.W.Frag) (C : Addr) (m : Str) (f : Addr) : Prop where
  at_ : PySem.W.findIn K (.ref C) m = some (some (.ref f))
  fn : PySem.W.isFn K (.ref f) = true
  kp : PySem.W.keepIn K (.ref f) = true
section
variable {X : Cx} {pins : List (Addr × Obj)} {σ : St} {H : Hp} {s : Shared} {a C dx : Addr} {fs : List (Str × V)} {f : Str} {v : V} {A : Around} {E : Value → Shared → Prop}
theorem getattr_ok {b : Bool} {Q : Value → Shared → Prop} (I : Inv X pins σ H s) (e : H a = some (.ins C dx fs)) (c : Cls X.K C) (n : NoAttr X.K C f) (l : fs.lookup f = some v)
    (h : ∀ u s', Inv X pins σ H s' → RelV v u → Q u s') : wpAny (model X.prog X.w) A (getAttr (.ref a) f b) Q E s := by
  obtain ⟨mA, O, r, _, _, _⟩ := ins_get I.hok e
  obtain ⟨u, hu, ru⟩ := RelO.some_of (v := v) (o := mA f) (by rw [← l]; exact r f)
  exact get_map I.kIn O (c.get f) c.hd n hu (handed_of ru) (h u _ (I.tok _) ru)
theorem getmeth_ok {m : Str} {g : Addr} {pl : Sem Bool} {Q : Value × List Value → Shared → Prop} (I : Inv X pins σ H s) (e : H a = some (.ins C dx fs)) (c : Cls X.K C) (k : Meth X.K C m g) (l : fs.lookup m = none)
    (h : Q (.ref g, [.ref a]) s) : wpAny (model X.prog X.w) A (getMethod (.ref a) m pl) Q E s := by
  obtain ⟨mA, O, r, _, _, _⟩ := ins_get I.hok e
  have hn : mA m = none := RelO.none_of (by rw [← l]; exact r m)
  exact get_meth I.kIn O (c.get m) k.at_ k.fn hn h
theorem setattr_ok {y : V} {u : Value} {Q : Unit → Shared → Prop} (I : Inv X pins σ H s) (e : H a = some (.ins C dx fs)) (c : Cls X.K C) (n : NoAttr X.K C f) (hl : fs.length < 1000) (ry : RelV y u)
    (h : ∀ s', Inv X pins σ (upd H a (.ins C dx (putF f y fs))) s' → Q () s') : wpAny (model X.prog X.w) A (setAttr (.ref a) f u) Q E s := by
  obtain ⟨mA, O, r, wi, _, ho⟩ := ins_get I.hok e
  have hz : (fs.map (·.1)).length ≤ sizeLine := by rw [List.length_map, sizeLine_eq]; omega
  refine set_map I.kIn O c.sa c.po n.taker c.hd wi hz fun h' O' sb => h _ ?_
  have hd : ∃ o, h'.get? dx = some o := let ⟨o, _, _, e', _⟩ := O'.ns; ⟨o, e'⟩
  refine I.write (x := a) (e := dx) (by rw [e]; exact True.intro) (.inr ho) (fun b q hb z => (sb.2 b hb).trans z) hd ?_
  refine ⟨by rw [upd_ne O.ne]; exact ho, ?_, O.ne, O'.obj, _, O'.ns, fun g => ?_, fun g hg => ?_⟩
  · have := length_putF f y fs; omega
  · show RelO ((putF f y fs).lookup g) (if g = f then some u else mA g)
    rw [lookup_putF]
    by_cases q : g = f
    · rw [if_pos q, if_pos q]; exact ry
    · rw [if_neg q, if_neg q]; exact r g
  · by_cases q : g = f
    · rw [q]; exact (keys_putF f y fs).1
    · refine (keys_putF f y fs).2 g (wi g fun z => hg ?_)
      show (if g = f then some u else mA g) = none
      rw [if_neg q]; exact z
theorem Inv.made (I : Inv X pins σ H s) : Inv X pins σ (upd (upd H s.heap.objs.size (.own (s.heap.objs.size + 1))) (s.heap.objs.size + 1) (.ins C s.heap.objs.size []))
    { s with heap := (s.heap.push PySem.W.emptyDict).push (PySem.W.instObj C s.heap.objs.size) } := by
  have e1 : (s.heap.push PySem.W.emptyDict).get? s.heap.objs.size = some PySem.W.emptyDict := Heap.get?_push_size s.heap rfl
  have e2 : ((s.heap.push PySem.W.emptyDict).push (PySem.W.instObj C s.heap.objs.size)).get? (s.heap.objs.size + 1) = some (PySem.W.instObj C s.heap.objs.size) := by
    have := Heap.get?_push_size (s.heap.push PySem.W.emptyDict) (o := PySem.W.instObj C s.heap.objs.size) rfl
    rwa [Heap.size_push] at this
  have e3 : (s.heap.push PySem.W.emptyDict).Ns s.heap.objs.size (fun _ => none) := ⟨PySem.W.emptyDict, #[], _, e1, rfl, (fun e he => absurd he (by simp)), fun _ => rfl⟩
  have I1 := I.laid (a := s.heap.objs.size) (o := .own (s.heap.objs.size + 1)) (h' := s.heap.push PySem.W.emptyDict) (t' := s.toks) (fun b u q => Heap.get?_push_of_some _ q) (Nat.le_refl _) ⟨_, e1⟩
  refine I1.laid (a := s.heap.objs.size + 1) (o := .ins C s.heap.objs.size []) (t' := s.toks) (fun b u q => Heap.get?_push_of_some _ q) (Nat.le_of_eq (Heap.size_push _ _)) ?_
  have ne : s.heap.objs.size ≠ s.heap.objs.size + 1 := Nat.ne_of_lt (Nat.lt_succ_self _)
  refine ⟨by rw [upd_ne ne, upd_same], Nat.zero_le _, ne, e2, fun _ => none, (Heap.Ns1.of_empty e3).at fun o q => Heap.get?_push_of_some _ q, fun _ => True.intro, fun y hy => absurd rfl hy⟩
theorem attr_of {prog : Program} {w : World} {env : Env} {e : Expr} {f : Str} {pos : Pos} {s : Shared} {Q : Value → Shared → Prop} (hb : attributeBase e f env (eval e env) = eval e env)
    (h : wpAny (model prog w) A (eval e env) (fun o s₁ => wpAny (model prog w) A (getAttr o f true) Q E s₁) E s) : wpAny (model prog w) A (eval (.Attribute e f pos) env) Q E s :=
  Attribute_any_ h (by rw [arm_eval_Attribute, hb])
end
def tFld (K : PySem.W.Frag) (ta : TE) (f : Str) : TE := fun σ H Q => ta σ H fun x H1 => ∃ a C dx fs v, x = .ref a ∧ H1 a = some (.ins C dx fs) ∧ Cls K C ∧ NoAttr K C f ∧ fs.lookup f = some v ∧ Q v H1
def sFld (K : PySem.W.Frag) (ta tv : TE) (f : Str) : TS := fun D σ H => tv σ H fun y H1 => ta σ H1 fun x H2 => ∃ a C dx fs, x = .ref a ∧ H2 a = some (.ins C dx fs) ∧ Cls K C ∧ NoAttr K C f ∧ fs.length < 1000 ∧
  D.nx σ (upd H2 a (.ins C dx (putF f y fs)))
section
variable {X : Cx} {o e value : Expr} {f : Str} {pos pos' tpos : Pos} {ta tv : TE}
theorem pe_fld (he : PE X e ta) (hb : attributeBase e f X.env (eval e X.env) = eval e X.env) : PE X (.Attribute e f pos) (tFld X.K ta f) := by
  intro pins s σ H Q I h
  refine attr_of hb (thn (he pins s σ H _ I h) fun u s1 ⟨x, H1, I1, rx, a, C, dx, fs, v, ex, ea, c, n, l, q⟩ => ?_)
  subst ex
  obtain rfl : u = Value.ref a := rx
  exact getattr_ok I1 ea c n l fun u' s2 I2 ru => ⟨v, H1, I2, ru, q⟩
theorem ps_fld (ha : PE X o ta) (hv : PE X value tv) (hs : swapsWith value (some (.Attribute o f pos')) pos.line X.env = pure false) : PS X (.Assign [.Attribute o f pos'] value pos) (sFld X.K ta tv f) := by
  intro pins s σ H D I h
  refine plainObj_wpAny_Assign_Attribute (thn (hv pins s σ H _ I h) fun u s1 ⟨y, H1, I1, ry, q⟩ => thn (ha pins s1 σ H1 _ I1 q) fun ov s2 ⟨x, H2, I2, rx, a, C, dx, fs, ex, ea, c, n, l, q2⟩ => ?_) hs
  subst ex
  obtain rfl : ov = Value.ref a := rx
  exact setattr_ok I2 ea c n l ry fun s3 I3 => ⟨σ, _, I3, q2⟩
end
section
variable {X : Cx} {pins : List (Addr × Obj)} {σ : St} {H : Hp} {s : Shared} {A : Around} {E : Value → Shared → Prop} {Q : Value → Shared → Prop} {c : Value} {b : Bool}
inductive TyOf (K : PySem.W.Frag) (H : Hp) : V → Value → Prop where
  | non : TyOf K H .non (.type "NoneType")
  | bl (x : Bool) : TyOf K H (.bl x) (.type "bool")
  | int (i : Int) : TyOf K H (.int i) (.type "int")
  | str (x : Str) : TyOf K H (.str x) (.type "str")
  | flt (x : UInt64) : TyOf K H (.flt x) (.type "float")
  | lst {a : Addr} {xs : List V} (e : H a = some (.lst xs)) : TyOf K H (.ref a) (.type "list")
  | frz {a : Addr} {o : Obj} {xs : List V} (e : H a = some (.frz o (.lst xs))) : TyOf K H (.ref a) (.type "list")
  | tup {a : Addr} {xs : List V} (e : H a = some (.tup xs)) : TyOf K H (.ref a) (.type "tuple")
  | dK {a : Addr} {kvs : List (Key × V)} (e : H a = some (.dK kvs)) : TyOf K H (.ref a) (.type "dict")
  | dT {a : Addr} {kvs : List (List Key × V)} (e : H a = some (.dT kvs)) : TyOf K H (.ref a) (.type "dict")
  | ins {a C dx : Addr} {fs : List (Str × V)} (e : H a = some (.ins C dx fs)) (cl : Cls K C) (ha : PySem.W.findIn K (.ref C) "__class__" = some (some (.builtin "object.__class__")))
      (hn : PySem.W.specialIn K (.builtin "object.__class__") "__get__" = some (some (.builtin "getset_descriptor.__get__"))) (htk : PySem.W.takesIn K (.builtin "object.__class__") = some true)
      (hm : PySem.W.mroIn K C (.type "object") = some true) : TyOf K H (.ref a) (.ref C)
theorem isinst_ok {x : V} {u t : Value} (I : Inv X pins σ H s) (rx : RelV x u) (ty : TyOf X.K H x t) (e : PySem.W.kitOne X.K t c = some b) (h : ∀ tk, Q (.bool b) { s with toks := tk }) :
    wpAny (model X.prog X.w) A (call (.builtin "isinstance") [u, c]) Q E s := by
  cases ty with
  | non => cases (show u = Value.none from rx); exact PySem.W.kia_one PySem.W.kitx_none I.kIn True.intro e (fun z => nomatch z) h
  | bl y => cases (show u = Value.bool y from rx); exact PySem.W.kia_one PySem.W.kitx_bool I.kIn True.intro e (fun z => nomatch z) h
  | int i => obtain ⟨t, q⟩ := (show ∃ t, u = Value.int i t from rx); cases q; exact PySem.W.kia_one PySem.W.kitx_int I.kIn True.intro e (fun z => nomatch z) h
  | str y => obtain ⟨t, q⟩ := (show ∃ t, u = Value.str y t from rx); cases q; exact PySem.W.kia_one PySem.W.kitx_str I.kIn True.intro e (fun z => nomatch z) h
  | flt y => obtain ⟨t, q⟩ := (show ∃ t, u = Value.float y t from rx); cases q; exact PySem.W.kia_one PySem.W.kitx_float I.kIn True.intro e (fun z => nomatch z) h
  | @lst a xs ea =>
    cases (show u = Value.ref a from rx)
    obtain ⟨_, _, n, _, h1⟩ := (show ObjOk X.prog X.w H s.heap a (.lst xs) from I.hok a _ ea)
    exact PySem.W.kia_one PySem.W.kitx_list I.kIn ⟨_, h1, rfl⟩ e (fun z => nomatch z) h
  | @frz a ob xs ea =>
    cases (show u = Value.ref a from rx)
    obtain ⟨_, _, _, n, _, h1⟩ := (show ObjOk X.prog X.w H s.heap a (.frz ob (.lst xs)) from I.hok a _ ea)
    exact PySem.W.kia_one PySem.W.kitx_list I.kIn ⟨_, h1, rfl⟩ e (fun z => nomatch z) h
  | @tup a xs ea =>
    cases (show u = Value.ref a from rx)
    obtain ⟨_, _, _, p⟩ := (show ObjOk X.prog X.w H s.heap a (.tup xs) from I.hok a _ ea)
    obtain ⟨o, h1, h2, _⟩ := p
    exact PySem.W.kia_one PySem.W.kitx_tuple I.kIn ⟨o, h1, h2⟩ e (fun z => nomatch z) h
  | @dK a kvs ea =>
    cases (show u = Value.ref a from rx)
    obtain ⟨_, _, vs, _, p⟩ := (show ObjOk X.prog X.w H s.heap a (.dK kvs) from I.hok a _ ea)
    obtain ⟨o, es, ep, h1, h2, _⟩ := p
    exact PySem.W.kia_one PySem.W.kitx_dict I.kIn ⟨o, h1, h2.1⟩ e (fun z => nomatch z) h
  | @dT a kvs ea =>
    cases (show u = Value.ref a from rx)
    obtain ⟨_, _, xs, _, o, es, ep, h1, h2, _⟩ := (show ObjOk X.prog X.w H s.heap a (.dT kvs) from I.hok a _ ea)
    exact PySem.W.kia_one PySem.W.kitx_dict I.kIn ⟨o, h1, h2.1⟩ e (fun z => nomatch z) h
  | @ins a C dx fs ea cl ha hn htk hm =>
    cases (show u = Value.ref a from rx)
    obtain ⟨mA, O, _⟩ := ins_get I.hok ea
    obtain ⟨od, J, _⟩ := O.look
    exact PySem.W.kia_one (PySem.W.kitx_own (cl.get _) cl.hd ha hn htk hm) I.kIn J e (fun z => nomatch z) h
end
end L2
namespace L2
open PySem PySem.Spec PyProof.Rows
structure Room (k : Nat) (A : Around) : Prop where
  hd : A.handled = none
  dp : A.depth + 3 * k + 5 < recursionLimit
  un : A.units + 16 * k + 200 < cLine
theorem Room.mono {j k : Nat} {A : Around} (r : Room k A) (h : j ≤ k) : Room j A := ⟨r.hd, by have := r.dp; omega, by have := r.un; omega⟩
theorem Room.deeper {k : Nat} {A : Around} (r : Room (k + 1) A) (env : Env) : Room k (A.deeper env) :=
  ⟨r.hd, by have := r.dp; show A.depth + 1 + 3 * k + 5 < _; omega, by have := r.un; show A.units + 3 + 16 * k + 200 < _; omega⟩
theorem Room.in1 {k : Nat} {A : Around} (r : Room (k + 1) A) : Room k A.in1 :=
  ⟨r.hd, by have := r.dp; show A.depth + 3 * k + 5 < _; omega, by have := r.un; show A.units + 1 + 16 * k + 200 < _; omega⟩
theorem make_depth {A : Around} {C : Addr} {us : List Value} {kw : List (Str × Value)} : (A.under (.builtin "type.__call__" ⟨.ref C :: us, kw⟩)).depth = A.depth + 1 := by
  first | rfl | simp [Around.under, Code.weight, Code.isCreation, Code.isGuard, Code.isCaller, Code.frames, Code.isFrame, guardIds]
theorem make_units {A : Around} {C : Addr} {us : List Value} {kw : List (Str × Value)} : (A.under (.builtin "type.__call__" ⟨.ref C :: us, kw⟩)).units = A.units + 1 := by
  first | rfl | simp [Around.under, Code.cUnits, Code.frames, Code.isFrame]
theorem Room.make {k : Nat} {A : Around} (r : Room (k + 1) A) (C : Addr) (us : List Value) (kw : List (Str × Value)) : Room k (A.under (.builtin "type.__call__" ⟨.ref C :: us, kw⟩)) :=
  ⟨r.hd, by have := r.dp; rw [make_depth]; omega, by have := r.un; rw [make_units]; omega⟩
theorem Room.depth {k : Nat} {A : Around} (r : Room k A) : A.depth < recursionLimit := by have := r.dp; omega
theorem Room.units {k : Nat} {A : Around} (r : Room k A) : A.units + 64 < cLine := by have := r.un; omega
theorem Room.units0 {k : Nat} {A : Around} (r : Room k A) : A.units < cLine := by have := r.un; omega
def tNil : TA := fun _ H Q => Q [] H
def tCons (ta : TE) (tr : TA) : TA := fun σ H Q => ta σ H fun x H1 => tr σ H1 fun xs H2 => Q (x :: xs) H2
section
variable {X : Cx} {e : Expr} {es : List Expr} {te : TE} {t : TA} {pos : Pos}
theorem pa_nil : PA X [] tNil := fun _ _ _ _ H Q I h => Calls.spliced_nil ⟨[], H, I, .nil, h⟩
theorem pa_cons (ha : PE X e te) (hr : PA X es t) (hs : starEach (e :: es) X.env = (false, eval e X.env) :: starEach es X.env := by rfl) : PA X (e :: es) (tCons te t) := by
  intro pos pins s σ H Q I h
  rw [hs]
  show wpAny _ _ (spliced ((false, eval e X.env) :: backTo pos (starEach es X.env))) _ _ s
  refine Calls.spliced_cons (thn (ha pins s σ H _ I h) fun u s1 ⟨x, H1, I1, r1, q1⟩ => ?_)
  exact thn (hr pos pins s1 σ H1 _ I1 q1) fun us s2 ⟨xs, H2, I2, r2, q2⟩ => ⟨x :: xs, H2, I2, .cons r1 r2, q2⟩
def tTup (t : TA) : TE := fun σ H Q => t σ H fun xs H1 => xs.length ≤ sizeLine ∧ ∀ p, H1 p = none → Q (.ref p) (upd H1 p (.tup xs))
def tLst (t : TA) : TE := fun σ H Q => t σ H fun xs H1 => xs.length ≤ sizeLine ∧ ∀ p, H1 p = none → Q (.ref p) (upd H1 p (.lst xs))
theorem pe_tup {x1} (h : PA X es t) : PE X (.Tuple es x1 pos) (tTup t) := by
  intro pins s σ H Q I hq
  refine wpAny_Tuple_spliced (thn (h pos pins s σ H _ I hq) fun us s1 ⟨xs, H1, I1, r, z, q⟩ => ⟨by rw [← r.length]; exact z, ?_⟩)
  have hf : H1 s1.heap.objs.size = none := I1.hok.fresh (Nat.le_refl _)
  refine ⟨.ref s1.heap.objs.size, upd H1 s1.heap.objs.size (.tup xs), I1.laid (t' := s1.toks) (fun b u e => Heap.get?_push_of_some _ e) (Nat.le_refl _) ?_, rfl, q _ hf⟩
  exact ⟨z, us, r, ⟨_, Heap.get?_push_size _ rfl, rfl, _, rfl⟩⟩
theorem pe_lst (h : PA X es t) : PE X (.List es pos) (tLst t) := by
  intro pins s σ H Q I hq
  refine wpAny_List_spliced (thn (h pos pins s σ H _ I hq) fun us s1 ⟨xs, H1, I1, r, z, q⟩ => ⟨by rw [← r.length]; exact z, ?_⟩)
  have hf : H1 s1.heap.objs.size = none := I1.hok.fresh (Nat.le_refl _)
  refine ⟨.ref s1.heap.objs.size, upd H1 s1.heap.objs.size (.lst xs), I1.laid (t' := s1.toks) (fun b u e => Heap.get?_push_of_some _ e) (Nat.le_refl _) ?_, rfl, q _ hf⟩
  exact ⟨z, us, 0, r, Heap.get?_push_size _ rfl⟩
end
abbrev Sp := List V → Hp → VK → XK → Prop
abbrev CXT := List Env → Hp → Shared → XK → Value → Shared → Prop
structure Env0 (P : Program) (w : World) (K : PySem.W.Frag) (mg : Str → Option Value) (base : Heap) (A : Around) (outer : List Env) (s : Shared) (H : Hp) : Prop where
  frames : A.frames = some outer
  mod : Mod K mg base
  bs : ∀ b o, base.get? b = some o → s.heap.get? b = some o ∧ H b = none
  bsz : base.objs.size ≤ s.heap.objs.size
  funs : s.heap.FunFrames base outer
  frf : ∀ b ∈ frs outer, H b = none
  hok : HOk P w H s.heap
  bare : AllBare s.gens
def CE (outer : List Env) (P : Program) (w : World) (H : Hp) (s : Shared) (Q : VK) (u : Value) (s' : Shared) : Prop :=
  ∃ v H', s'.os = s.os ∧ AllBare s'.gens ∧ Un (frs outer) [] H H' s.heap s'.heap ∧ HOk P w H' s'.heap ∧ RelV v u ∧ Q v H'
def CR (CX : CXT) (outer : List Env) (P : Program) (w : World) (H : Hp) (s : Shared) (Q : VK) (E : XK) (r : Result) (s' : Shared) : Prop :=
  match r with
  | .ok (.ret u) => CE outer P w H s Q u s'
  | .ok _ => False
  | .error e => CX outer H s E e s'
structure FnOk (P : Program) (w : World) (K : PySem.W.Frag) (mg : Str → Option Value) (base : Heap) (CX : CXT) (k : Nat) (f : Addr) (fd : FuncData) (ps : List Str) (sp : Sp) : Prop where
  len : ∀ vs H Q E, sp vs H Q E → vs.length = ps.length
  run : ∀ (A : Around) (outer : List Env) (s : Shared) (H : Hp) (args : Args) (us : List Value) (vs : List V) (Q : VK) (E : XK), Room k A → Env0 P w K mg base A outer s H → BindsTo s fd args (ps.zip us) → Vals vs us → sp vs H Q E →
    codeAny (model P w) A (.call (.ref f) args) (CR CX outer P w H s Q E) s
theorem FnOk.mono {P : Program} {w : World} {K : PySem.W.Frag} {mg : Str → Option Value} {base : Heap} {CX : CXT} {j k : Nat} {f : Addr} {fd : FuncData} {ps : List Str} {sp : Sp} (F : FnOk P w K mg base CX j f fd ps sp) (h : j ≤ k) :
    FnOk P w K mg base CX k f fd ps sp := ⟨F.len, fun A outer s H args us vs Q E hr => F.run A outer s H args us vs Q E (hr.mono h)⟩
theorem Env0.make {P : Program} {w : World} {K : PySem.W.Frag} {mg : Str → Option Value} {base : Heap} {A : Around} {outer : List Env} {s : Shared} {H : Hp} (e : Env0 P w K mg base A outer s H) (C : Addr) (us : List Value) (kw : List (Str × Value)) :
    Env0 P w K mg base (A.under (.builtin "type.__call__" ⟨.ref C :: us, kw⟩)) outer s H := ⟨by first | exact e.frames | (simpa [Around.under, Code.envs, Code.isFrame, pushEnvs] using e.frames), e.mod, e.bs, e.bsz, e.funs, e.frf, e.hok, e.bare⟩
theorem Env0.in1 {P : Program} {w : World} {K : PySem.W.Frag} {mg : Str → Option Value} {base : Heap} {A : Around} {outer : List Env} {s : Shared} {H : Hp} (e : Env0 P w K mg base A outer s H) :
    Env0 P w K mg base A.in1 outer s H := ⟨e.frames, e.mod, e.bs, e.bsz, e.funs, e.frf, e.hok, e.bare⟩
section
variable {X : Cx} {pins : List (Addr × Obj)} {σ : St} {H : Hp} {s s' : Shared}
theorem Inv.env0 (I : Inv X pins σ H s) : Env0 X.prog X.w X.K X.mg X.base X.A X.stack s H :=
  ⟨I.ok.frames, I.ok.mod, I.bs, Nat.le_trans I.ok.bsz I.sz, I.stack, I.stkFree, I.hok, I.bare⟩
theorem Inv.after {Q : VK} {u : Value} (I : Inv X pins σ H s) (h : CE X.stack X.prog X.w H s Q u s') : EP X pins σ Q u s' := by
  obtain ⟨v, H', os, bare, un, hok, r, q⟩ := h
  obtain ⟨hh, g, d, t, os'⟩ := s'
  obtain rfl : os' = s.os := os
  exact ⟨v, H', I.call (h' := hh) (g' := g) (d' := d) (t' := t) (ch := []) un hok bare (fun b z => absurd z (by simp)), r, q⟩
end
def tCall (sp : Sp) (dvs : List V) (E : XK) (t : TA) : TE := fun σ H Q => t σ H fun vs H1 => sp (vs ++ dvs) H1 Q E
def tMeth (C : Addr) (m : Str) (sp : Sp) (dvs : List V) (E : XK) (ta : TE) (t : TA) : TE := fun σ H Q => ta σ H fun x H1 => ∃ a dx fs, x = .ref a ∧ H1 a = some (.ins C dx fs) ∧ fs.lookup m = none ∧
  t σ H1 fun vs H2 => sp (x :: (vs ++ dvs)) H2 Q E
def tMake (C : Addr) (sp : Sp) (dvs : List V) (E : XK) (t : TA) : TE := fun σ H Q => t σ H fun vs H1 => ∀ x dx, H1 x = none → H1 dx = none → dx ≠ x →
  sp (.ref x :: (vs ++ dvs)) (upd (upd H1 dx (.own x)) x (.ins C dx [])) (fun v H2 => v = .non ∧ Q (.ref x) H2) E
def Binds (K : PySem.W.Frag) (fd : FuncData) (ps : List Str) (ds : List Value) : Prop :=
  ∀ (s : Shared) (us : List Value), K.In s.heap → (us ++ ds).length = ps.length → BindsTo s fd ⟨us, []⟩ (ps.zip (us ++ ds))
theorem Binds.all {K : PySem.W.Frag} {fd : FuncData} {ps : List Str} (h : ∀ us : List Value, us.length = ps.length → bindArgs fd ⟨us, []⟩ = pure (ps.zip us)) : Binds K fd ps [] := fun s us _ hl => by
  rw [List.append_nil] at hl ⊢
  exact .of_eq (h us hl)
def Passes (CX : CXT) (X : Cx) (E : XK) : Prop := ∀ (pins : List (Addr × Obj)) (σ : St) (H : Hp) (s : Shared) (e : Value) (s' : Shared), Inv X pins σ H s → CX X.stack H s E e s' → X.xe e s'
section
variable {X : Cx} {CX : CXT} {k : Nat} {f C : Addr} {fd : FuncData} {ps : List Str} {sp : Sp} {dvs : List V} {ds : List Value} {E : XK} {x m : Str} {p pos apos : Pos} {e o : Expr} {es : List Expr} {ta : TE} {t : TA}
theorem run_fn {pins : List (Addr × Obj)} {σ : St} {H : Hp} {s : Shared} {Q : VK} {us : List Value} {vs : List V} (F : FnOk X.prog X.w X.K X.mg X.base CX k f fd ps sp) (hr : Room k X.A) (hb : Binds X.K fd ps ds) (hd : Vals dvs ds) (hx : Passes CX X E)
    (I : Inv X pins σ H s) (r : Vals vs us) (h : sp (vs ++ dvs) H Q E) : wpAny (model X.prog X.w) X.A (call (.ref f) us) (EP X pins σ Q) X.xe s := by
  have r2 : Vals (vs ++ dvs) (us ++ ds) := r.append hd
  have hl : (us ++ ds).length = ps.length := by rw [← r2.length]; exact F.len _ _ _ _ h
  refine wpAny_call (codeAny_mono (F.run X.A X.stack s H ⟨us, []⟩ (us ++ ds) (vs ++ dvs) Q E hr I.env0 (hb s us I.kIn hl) r2 h) fun r s' hq => ?_)
  cases r with
  | error e => exact hx pins σ H s e s' I hq
  | ok fl =>
    cases fl with
    | ret u => exact I.after hq
    | next => exact False.elim hq
    | brk => exact False.elim hq
    | cont => exact False.elim hq
theorem pe_call (F : FnOk X.prog X.w X.K X.mg X.base CX k f fd ps sp) (hr : Room k X.A) (hg : Gl X x) (hm : X.mg x = some (.ref f)) (hk : PySem.W.keepIn X.K (.ref f) = true) (hb : Binds X.K fd ps ds) (hd : Vals dvs ds) (hx : Passes CX X E)
    (ha : PA X (e :: es) t) (hdb : (x == ("__debug__" : Str)) = false := by decide) (he : starEach (e :: es) X.env = (false, eval e X.env) :: starEach es X.env := by rfl) (hpl : (backTo pos (starEach es X.env)).any (·.1) = false := by rfl) :
    PE X (.Call (.Name x p) (e :: es) [] pos) (tCall sp dvs E t) := by
  intro pins s σ H Q I h
  refine wpAny_Call_Name_kw (ld_glob I hg hm ?_ hdb)
  refine PySem.W.callWith_K (h₀ := X.base) I.ok.mod.kin hk (thn (ha pos pins s σ H _ I h) fun us s1 ⟨vs, H1, I1, r, q⟩ => ⟨I1.kIn, ?_⟩) he hpl
  exact run_fn F hr hb hd hx I1 r q
structure Mk (K : PySem.W.Frag) (C f : Addr) : Prop where
  makes : PySem.W.makesIn K C = true
  init : PySem.W.findIn K (.ref C) "__init__" = some (some (.ref f))
  fn : PySem.W.isFn K (.ref f) = true
  kp : PySem.W.keepIn K (.ref C) = true
theorem run_make {pins : List (Addr × Obj)} {σ : St} {H : Hp} {s : Shared} {Q : VK} {us : List Value} {vs : List V} (M : Mk X.K C f) (F : FnOk X.prog X.w X.K X.mg X.base CX k f fd ps sp) (hr : Room (k + 1) X.A) (hb : Binds X.K fd ps ds) (hd : Vals dvs ds)
    (hx : Passes CX X E) (I : Inv X pins σ H s) (r : Vals vs us)
    (h : ∀ x dx, H x = none → H dx = none → dx ≠ x → sp (.ref x :: (vs ++ dvs)) (upd (upd H dx (.own x)) x (.ins C dx [])) (fun v H2 => v = .non ∧ Q (.ref x) H2) E) :
    wpAny (model X.prog X.w) X.A (call (.ref C) us) (EP X pins σ Q) X.xe s := by
  have hq := h (s.heap.objs.size + 1) s.heap.objs.size (I.hok.fresh (Nat.le_succ _)) (I.hok.fresh (Nat.le_refl _)) (Nat.ne_of_lt (Nat.lt_succ_self _))
  have I2 := Inv.made (C := C) I
  have r2 : Vals (V.ref (s.heap.objs.size + 1) :: (vs ++ dvs)) (Value.ref (s.heap.objs.size + 1) :: (us ++ ds)) := .cons rfl (r.append hd)
  have hl : (Value.ref (s.heap.objs.size + 1) :: us ++ ds).length = ps.length := by
    have e := r2.length
    rw [F.len _ _ _ _ hq] at e
    exact e.symm
  refine wpAny_call (make_map (f := f) I.kIn M.makes M.init (beq_iff_eq.mp M.fn) (codeAny_mono (F.run _ X.stack _ _ ⟨Value.ref (s.heap.objs.size + 1) :: us, []⟩ (Value.ref (s.heap.objs.size + 1) :: (us ++ ds)) _ _ E (hr.make C us [])
    (I2.env0.make C us []) (hb _ (Value.ref (s.heap.objs.size + 1) :: us) I2.kIn hl) r2 hq) fun r s' hq' => ?_))
  cases r with
  | error e => exact hx pins σ _ _ e s' I2 hq'
  | ok fl =>
    cases fl with
    | ret u =>
      obtain ⟨v, H', I3, rv, ev, q3⟩ := I2.after hq'
      subst ev
      exact ⟨rv, ⟨V.ref (s.heap.objs.size + 1), H', I3, rfl, q3⟩⟩
    | next => exact False.elim hq'
    | brk => exact False.elim hq'
    | cont => exact False.elim hq'
theorem pe_make (M : Mk X.K C f) (F : FnOk X.prog X.w X.K X.mg X.base CX k f fd ps sp) (hr : Room (k + 1) X.A) (hg : Gl X x) (hm : X.mg x = some (.ref C)) (hb : Binds X.K fd ps ds) (hd : Vals dvs ds) (hx : Passes CX X E)
    (ha : PA X (e :: es) t) (hdb : (x == ("__debug__" : Str)) = false := by decide) (he : starEach (e :: es) X.env = (false, eval e X.env) :: starEach es X.env := by rfl) (hpl : (backTo pos (starEach es X.env)).any (·.1) = false := by rfl) :
    PE X (.Call (.Name x p) (e :: es) [] pos) (tMake C sp dvs E t) := by
  intro pins s σ H Q I h
  refine wpAny_Call_Name_kw (ld_glob I hg hm ?_ hdb)
  refine PySem.W.callWith_K (h₀ := X.base) I.ok.mod.kin M.kp (thn (ha pos pins s σ H _ I h) fun us s1 ⟨vs, H1, I1, r, q⟩ => ⟨I1.kIn, ?_⟩) he hpl
  exact run_make M F hr hb hd hx I1 r q
end
section
variable {X : Cx} {CX : CXT} {k : Nat} {f C : Addr} {fd : FuncData} {ps ks : List Str} {sp : Sp} {E : XK} {x m : Str} {p pos apos kpos : Pos} {e o : Expr} {es : List Expr} {kws : List Keyword} {te ta : TE} {t tk : TA} {nm : Option Str}
variable {g : List Value → List Value → List Value} {gV : List V → List V → List V}
end
structure FnScope (N P : List Str) (sc : Scope) : Prop where
  kind : sc.kind = .function
  co : sc.isCoroutine = false
  gen : sc.isGenerator = false
  nd : N.Nodup
  pre : N.take P.length = P
  par : ∀ x ∈ P, sc.names.lookup x = some .local ∨ sc.names.lookup x = some .cell
  nofree : ∀ y ∈ sc.names, y.2 ≠ .free
theorem bindL_out {kindOf : Str → Option NameKind} {x : Str} : ∀ {binds : List (Str × Value)} {m : Str → Option Value}, (∀ v, (x, v) ∉ binds) → bindL kindOf binds m x = m x
  | [], _, _ => rfl
  | (n, v) :: r, m, h => by
    unfold bindL
    rw [bindL_out fun w hw => h w (List.mem_cons_of_mem _ hw)]
    split
    · have : x ≠ n := by rintro rfl; exact h v List.mem_cons_self
      simp [this]
    · rfl
theorem bindC_out {kindOf : Str → Option NameKind} {x : Str} : ∀ {binds : List (Str × Value)} {m : Str → Option Value}, (∀ v, (x, v) ∉ binds) → bindC kindOf binds m x = m x
  | [], _, _ => rfl
  | (n, v) :: r, m, h => by
    unfold bindC
    rw [bindC_out fun w hw => h w (List.mem_cons_of_mem _ hw)]
    split
    · rfl
    · have : x ≠ n := by rintro rfl; exact h v List.mem_cons_self
      simp [this]
theorem bindL_get {kindOf : Str → Option NameKind} {x : Str} {v : Value} : ∀ {P : List Str} {vs : List Value} {i : Nat} {m : Str → Option Value}, P.Nodup → P[i]? = some x → vs[i]? = some v → kindOf x = some .local →
    bindL kindOf (P.zip vs) m x = some v
  | [], _, _, _, _, h, _, _ => by simp at h
  | _ :: _, [], _, _, _, _, h, _ => by simp at h
  | p :: P, w :: vs, 0, m, nd, h1, h2, hk => by
    simp at h1 h2; subst h1; subst h2
    show bindL kindOf ((p, w) :: P.zip vs) m p = _
    unfold bindL
    rw [bindL_out fun v hv => (List.nodup_cons.mp nd).1 (List.of_mem_zip hv).1, if_pos hk]
    simp
  | p :: P, w :: vs, i + 1, m, nd, h1, h2, hk => by
    show bindL kindOf ((p, w) :: P.zip vs) m x = _
    unfold bindL
    exact bindL_get (i := i) (List.nodup_cons.mp nd).2 (by simpa using h1) (by simpa using h2) hk
theorem bindC_get {kindOf : Str → Option NameKind} {x : Str} {v : Value} : ∀ {P : List Str} {vs : List Value} {i : Nat} {m : Str → Option Value}, P.Nodup → P[i]? = some x → vs[i]? = some v → kindOf x ≠ some .local →
    bindC kindOf (P.zip vs) m x = some v
  | [], _, _, _, _, h, _, _ => by simp at h
  | _ :: _, [], _, _, _, _, h, _ => by simp at h
  | p :: P, w :: vs, 0, m, nd, h1, h2, hk => by
    simp at h1 h2; subst h1; subst h2
    show bindC kindOf ((p, w) :: P.zip vs) m p = _
    unfold bindC
    rw [bindC_out fun v hv => (List.nodup_cons.mp nd).1 (List.of_mem_zip hv).1, if_neg hk]
    simp
  | p :: P, w :: vs, i + 1, m, nd, h1, h2, hk => by
    show bindC kindOf ((p, w) :: P.zip vs) m x = _
    unfold bindC
    exact bindC_get (i := i) (List.nodup_cons.mp nd).2 (by simpa using h1) (by simpa using h2) hk
def start (N : List Str) (vs : List V) : St := vs.map some ++ List.replicate (N.length - vs.length) none
def cxOf (CX : CXT) (P : Program) (w : World) (K : PySem.W.Frag) (mg : Str → Option Value) (base : Heap) (N : List Str) (qual : Str) (scope : Scope) (f : Addr) (cd : Value) (A : Around) (outer : List Env) (s : Shared) (H : Hp) (E : XK) : Cx where
  prog := P
  w := w
  K := K
  mg := mg
  base := base
  A := A.deeper (envOfC qual scope s.heap.objs.size f cd)
  N := N
  s₀ := s
  H₀ := H
  env := envOfC qual scope s.heap.objs.size f cd
  outer := outer
  stack := envOfC qual scope s.heap.objs.size f cd :: outer
  ex := []
  calm := true
  fn := fun _ => true
  pn := []
  xe := fun e s' => wpAny (model P w) (A.deeper (envOfC qual scope s.heap.objs.size f cd)) (leaving (envOfC qual scope s.heap.objs.size f cd) e) (fun _ s'' => CX outer H s E e s'') (fun e' s'' => CX outer H s E e' s'') s'
theorem cell_has {sc : Scope} {n : Nat} {x : Str} (h : sc.names.lookup x = some .cell) : ∃ c, (cellsFrom n sc.names []).lookup x = some c := by
  have q := PySem.W.cellsFrom_some sc.names n [] (.inl h)
  exact Option.isSome_iff_exists.mp q
theorem inv_start {CX : CXT} {P : Program} {w : World} {K : PySem.W.Frag} {mg : Str → Option Value} {base : Heap} {N ps : List Str} {qual : Str} {scope : Scope} {f : Addr} {cd : Value} {A : Around} {outer : List Env} {s s1 : Shared} {H : Hp} {E : XK} {us : List Value} {vs : List V}
    (S : FnScope N ps scope) (hd : A.handled = none) (e0 : Env0 P w K mg base A outer s H) (hl : vs.length = ps.length) (r : Vals vs us)
    (x : InCallC s s.heap.objs.size (bindL (envOfC qual scope s.heap.objs.size f cd).kindOf (ps.zip us) fun _ => none) (cellsFrom (s.heap.objs.size + 1) scope.names []) (bindC (envOfC qual scope s.heap.objs.size f cd).kindOf (ps.zip us) fun _ => none) s1) :
    Inv (cxOf CX P w K mg base N qual scope f cd A outer s H E) [] (start N vs) H s1 := by
  have hpl : ps.length ≤ N.length := by have := congrArg List.length S.pre; rw [List.length_take] at this; omega
  obtain ⟨h1, tk, rfl, hk⟩ := x.done
  have noA : ∀ b : Addr, b ∉ (cxOf CX P w K mg base N qual scope f cd A outer s H E).ex := fun b z => absurd (show b ∈ ([] : List Addr) from z) (by simp)
  refine ⟨⟨e0.mod, S.kind, rfl, rfl, Nat.le_refl _, fun y z c h1 h2 => ?_, fun y hy => ?_, fun y c _ h => ?_, fun _ => hd, Around.frames_deeper e0.frames, .inr ⟨rfl, rfl⟩, fun b z => absurd z (noA b), e0.bs, e0.bsz, fun b _ _ => noA b, fun b z => absurd z (noA b), e0.funs, e0.frf⟩,
    rfl, e0.bare, Un.kept hk, ⟨_, x.toInCall.ns, fun i y v h1 h2 h3 => ?_⟩, fun y c h => ⟨_, x.cell y c h⟩, e0.hok.fresh (Nat.le_refl _), fun y c h => ?_, fun p hp => absurd (show p ∈ ([] : List (Addr × Obj)) from hp) (by simp), e0.hok.kept hk, ?_⟩
  · exact name_of_addr x.apart (PySem.mem_of_lookup h1) (PySem.mem_of_lookup h2)
  · have hy : scope.names.lookup y = some .cell ∨ scope.names.lookup y = some .free := hy
    rcases hy with hy | hy
    · exact cell_has hy
    · exact absurd rfl (S.nofree _ (PySem.mem_of_lookup hy))
  · exact Nat.le_of_lt (x.above y c (PySem.mem_of_lookup h))
  · have hi : i < vs.length := by
      unfold start at h2
      by_cases hi : i < vs.length
      · exact hi
      · rw [List.getElem?_append_right (by simpa using hi)] at h2
        rw [List.getElem?_replicate] at h2
        split at h2 <;> cases h2
    have ha : vs[i]? = some v := by
      unfold start at h2
      rw [List.getElem?_append_left (by simpa using hi), List.getElem?_map] at h2
      cases e : vs[i]? with
      | none => rw [e] at h2; cases h2
      | some a => rw [e] at h2; cases h2; rfl
    obtain ⟨u, hu, rv⟩ := r.get ha
    have hp : ps[i]? = some y := by
      rw [← S.pre, List.getElem?_take_of_lt (by omega)]; exact h1
    have ndP : ps.Nodup := by rw [← S.pre]; exact S.nd.sublist (List.take_sublist _ _)
    refine ⟨u, rv, ?_⟩
    rcases S.par y (List.mem_of_getElem? hp) with k | k
    · exact .inl ⟨k, bindL_get ndP hp hu k⟩
    · obtain ⟨c, e⟩ := cell_has (n := s.heap.objs.size + 1) k
      refine .inr ⟨.inl k, c, e, ?_⟩
      have q := x.cell y c e
      rw [bindC_get ndP hp hu (by show scope.names.lookup y ≠ _; rw [k]; decide)] at q
      exact q
  · exact e0.hok.fresh (Nat.le_of_lt (x.above y c (PySem.mem_of_lookup h)))
  · unfold start
    show _ = N.length
    rw [List.length_append, List.length_map, List.length_replicate]
    omega
theorem fn_of {CX : CXT} {P : Program} {w : World} {K : PySem.W.Frag} {mg : Str → Option Value} {base : Heap} {k : Nat} {f : Addr} {name qual : Str} {params : Arguments} {body : List Stmt} {scope : Scope} {dV kV doc pm cdv ct oc : Value} {an od : Option Addr}
    {osl : Array (Option Value)} {N ps : List Str} {sp : Sp} (lk : K.lookup f = some ⟨oc, od, .func (PySem.W.fnOf name qual params body scope dV kV doc pm an cdv ct), osl⟩) (hcd : PySem.W.codeIn K cdv qual = true) (S : FnScope N ps scope)
    (len : ∀ vs H Q E, sp vs H Q E → vs.length = ps.length)
    (hbody : ∀ (A : Around) (outer : List Env) (s : Shared) (H : Hp) (vs : List V) (Q : VK) (E : XK), Room k (A.deeper (envOfC qual scope s.heap.objs.size f cdv)) → sp vs H Q E →
      ∃ t, PSs (cxOf CX P w K mg base N qual scope f cdv A outer s H E) body t ∧ t { nx := fun _ H' => Q .non H', rt := Q } (start N vs) H) :
    FnOk P w K mg base CX (k + 1) f (PySem.W.fnOf name qual params body scope dV kV doc pm an cdv ct) ps sp := by
  refine ⟨len, fun A outer s H args us vs Q E hr e0 hb r hsp => ?_⟩
  have hl := len _ _ _ _ hsp
  have KX : K.In s.heap := e0.mod.kin.keeps fun b o e => (e0.bs b o e).1
  have lim : s.heap.NoLimit := e0.mod.nolimit.keeps fun b o e => (e0.bs b o e).1
  have hkind : ∀ y ∈ ps.zip us, scope.names.lookup y.1 = some .local ∨ (scope.names.lookup y.1 = some .cell ∧ ((cellsFrom (s.heap.objs.size + 1) scope.names []).lookup y.1).isSome = true) := fun ⟨n, v⟩ hy => by
    rcases S.par n (List.of_mem_zip hy).1 with q | q
    · exact .inl q
    · exact .inr ⟨q, PySem.W.cellsFrom_some _ _ _ (.inl q)⟩
  refine codeAny_call_function hr.depth (KX _ _ lk) rfl S.co S.gen rfl (PySem.W.codeRec_of KX hcd) (hb _ _ _ _ ?_)
  refine wpAny_newFunctionEnv_cells S.kind hkind fun env he s1 x => ?_
  subst he
  refine ⟨lim.keeps x.toInCall.keep, codeAny_func ?_⟩
  obtain ⟨t, ht, hq⟩ := hbody A outer s H vs Q E (hr.deeper _) hsp
  have I : Inv (cxOf CX P w K mg base N qual scope f cdv A outer s H E) [] (start N vs) H s1 := inv_start S hr.hd e0 hl r x
  refine wpAny_mono (ht [] s1 (start N vs) H _ I hq) (fun fl s' hs => ?_) fun e s' hs => hs
  have fin : ∀ {σ' : St} {H' : Hp} {v : V} {u : Value}, Inv (cxOf CX P w K mg base N qual scope f cdv A outer s H E) [] σ' H' s' → RelV v u → Q v H' → CE outer P w H s Q u s' :=
    fun {σ' H' v u} J rv q => ⟨v, H', J.os, J.bare, J.base, J.hok, rv, q⟩
  cases fl with
  | ret u =>
    obtain ⟨v, σ', H', J, rv, q⟩ := hs
    exact fin J rv q
  | next =>
    obtain ⟨σ', H', J, q⟩ := hs
    exact fin (v := V.non) (u := Value.none) J rfl q
  | brk =>
    obtain ⟨_, _, _, q⟩ := hs
    exact False.elim q
  | cont =>
    obtain ⟨_, _, _, q⟩ := hs
    exact False.elim q
end L2
namespace L2
open PySem PySem.Spec PyProof.Rows
section
variable {X : Cx} {x : Str} {p pos : Pos} {e : Expr} {es : List Expr} {t : TA} {id T : String} {r : List V → Hp → VK → Prop}
def tCB (r : List V → Hp → VK → Prop) (t : TA) : TE := fun σ H Q => t σ H fun vs H1 => r vs H1 Q
theorem pe_callB (hc : CallR X (.builtin id) r) (hg : Gl X x) (hm : X.mg x = none) (hv : bootBuiltins x = some (.builtin id)) (ha : PA X (e :: es) t) (hn : x ≠ "__name__" := by decide) (hdb : (x == ("__debug__" : Str)) = false := by decide)
    (he : starEach (e :: es) X.env = (false, eval e X.env) :: starEach es X.env := by rfl) (hpl : (backTo pos (starEach es X.env)).any (·.1) = false := by rfl) : PE X (.Call (.Name x p) (e :: es) [] pos) (tCB r t) := by
  intro pins s σ H Q I h
  refine wpAny_Call_Name_kw (ld_blt I hg hm hv ?_ hn hdb)
  exact PyProof.Rows.callWith_builtin1 (thn (ha pos pins s σ H _ I h) fun us s1 ⟨vs, H1, I1, r1, q1⟩ => hc pins s1 σ H1 vs us Q I1 r1 q1) he hpl
end
end L2
namespace HT
open PySem PyProof.Rows
section
open PySem.SeqAt
open PySem.AutoSeq1 (wpAny_loadPart')
open PySem.MeetsSeq PySem.MeetsSeq2 PySem.MeetsSeq3
end
section
variable {prog : Program} {w : World} {A : Around} {E : Value → Shared → Prop} {s : Shared}
def sIx (n d : Nat) : Option Int → Nat
  | none => d
  | some v => if v < 0 then (v + (n : Int)).toNat else min v.toNat n
end
end HT
namespace L2
open PySem PySem.Spec PyProof.Rows
abbrev TO := St → Hp → (Option Int → Hp → Prop) → Prop
def PO (X : Cx) (e : Option Expr) (t : TO) : Prop :=
  ∀ (pins : List (Addr × Obj)) (s : Shared) (σ : St) (H : Hp) (Q : Option Int → Hp → Prop), Inv X pins σ H s → t σ H Q →
    wpAny (model X.prog X.w) X.A (evalPart e X.env) (fun u s' => ∃ o H', Inv X pins σ H' s' ∧ IsPart u o ∧ Q o H') X.xe s
def tNoPart : TO := fun _ H Q => Q none H
def tPart (t : TE) : TO := fun σ H Q => t σ H fun x H1 => ∃ i, x = .int i ∧ Q (some i) H1
section
variable {X : Cx} {e : Expr} {te : TE} {lo hi : Option Expr} {tl th : TO} {pos p2 : Pos}
theorem po_none : PO X none tNoPart := by
  intro pins s σ H Q I h
  rw [evalPart_none]
  exact wpAny_pure ⟨none, H, I, .none, h⟩
theorem po_some (h : PE X e te) : PO X (some e) (tPart te) := by
  intro pins s σ H Q I hw
  rw [evalPart_some]
  refine thn (h pins s σ H _ I hw) fun u s1 ⟨x, H1, I1, r1, q1⟩ => ?_
  obtain ⟨i, rfl, q⟩ := q1
  obtain ⟨t, rfl⟩ := r1
  exact ⟨some i, H1, I1, .int i t, q⟩
def tSl (r : V → Option Int → Option Int → Hp → VK → Prop) (te : TE) (tl th : TO) : TE := fun σ H Q => te σ H fun x H1 => tl σ H1 fun l H2 => th σ H2 fun u H3 => r x l u H3 Q
def cutV (xs : List V) (lo hi : Option Int) : List V := (xs.drop (HT.sIx xs.length 0 lo)).take (HT.sIx xs.length xs.length hi - HT.sIx xs.length 0 lo)
end
end L2
namespace L2
open PySem PySem.Spec PyProof.Rows
def ixN (n : Nat) (i : Int) : Option Nat := if 0 ≤ i then (if i < n then some i.toNat else none) else if -(n : Int) ≤ i then some (i + n).toNat else none
def atI {α : Type} (xs : List α) (i : Int) : Option α := (ixN xs.length i).bind fun j => xs[j]?
theorem ixN_seq {n : Nat} {i : Int} {j : Nat} (h : ixN n i = some j) : seqIndex? i n = some j ∧ j < n ∧ -(n : Int) ≤ i ∧ i < n := by
  unfold ixN at h
  by_cases h0 : 0 ≤ i
  · rw [if_pos h0] at h
    by_cases h1 : i < n
    · rw [if_pos h1] at h
      have e : i.toNat = j := Option.some.inj h
      exact ⟨by rw [seqIndex_of h0 h1, e], by omega, by omega, h1⟩
    · rw [if_neg h1] at h; cases h
  · rw [if_neg h0] at h
    by_cases h1 : -(n : Int) ≤ i
    · rw [if_pos h1] at h
      have e : (i + n).toNat = j := Option.some.inj h
      exact ⟨by rw [seqIndex_neg (by omega) h1, e], by omega, h1, by omega⟩
    · rw [if_neg h1] at h; cases h
theorem atI_get {α : Type} {xs : List α} {i : Int} {v : α} (h : atI xs i = some v) : ∃ j, seqIndex? i xs.length = some j ∧ xs[j]? = some v ∧ j < xs.length ∧ -(xs.length : Int) ≤ i ∧ i < xs.length := by
  unfold atI at h
  cases e : ixN xs.length i with
  | none => rw [e] at h; cases h
  | some j =>
    rw [e] at h
    obtain ⟨h1, h2, h3, h4⟩ := ixN_seq e
    exact ⟨j, h1, h, h2, h3, h4⟩
theorem atI_nat {α : Type} {xs : List α} {j : Nat} {v : α} (h : xs[j]? = some v) : atI xs (j : Int) = some v := by
  have hj : j < xs.length := (List.getElem?_eq_some_iff.mp h).1
  have e : ixN xs.length (j : Int) = some j := by
    unfold ixN
    rw [if_pos (by omega), if_pos (by omega)]; simp
  unfold atI; rw [e]; exact h
def PlainIx (b : Expr) : Prop := ∀ o i, subscripted b false o i = operate [o, i] (getItem o i)
def IxR (X : Cx) (r : R2) : Prop :=
  ∀ (value slice : Expr) (pins : List (Addr × Obj)) (s : Shared) (σ : St) (H : Hp) (x y : V) (v u : Value) (Q : VK), Inv X pins σ H s → RelV x v → RelV y u → r x y H Q →
    subscripted slice false v u = operate [v, u] (getItem v u) → wpAny (model X.prog X.w) X.A (subscriptTail value slice v u) (EP X pins σ Q) X.xe s
def MtR (X : Cx) (id : String) (r : V → List V → Hp → VK → Prop) : Prop :=
  ∀ (pins : List (Addr × Obj)) (s : Shared) (σ : St) (H : Hp) (x : V) (xs : List V) (v : Value) (us : List Value) (Q : VK), Inv X pins σ H s → RelV x v → Vals xs us → r x xs H Q →
    wpAny (model X.prog X.w) X.A (call (.builtin id) (v :: us)) (EP X pins σ Q) X.xe s
section
variable {X : Cx} {a b : Expr} {ta tb : TE} {pos : Pos}
theorem pe_ix {r : R2} (hr : IxR X r) (ha : PE X a ta) (hb : PE X b tb) (hs : PlainIx b) : PE X (.Subscript a b pos) (tOp r ta tb) := by
  intro pins s σ H Q I h
  exact Subscript_ (binT ha hb I h fun v u s2 x y H2 I2 rx ry q => hr a b pins s2 σ H2 x y v u Q I2 rx ry q (hs _ _))
def rIxL (K : PySem.W.Frag) : R2 := fun x y H Q => ∃ p xs i v, x = .ref p ∧ y = .int i ∧ SqL K H p xs ∧ atI xs i = some v ∧ Q v H
def rIxT (K : PySem.W.Frag) : R2 := fun x y H Q => ∃ p xs i v, x = .ref p ∧ y = .int i ∧ SqT K H p xs ∧ atI xs i = some v ∧ Q v H
def rIxS : R2 := fun x y H Q => ∃ z i c, x = .str z ∧ y = .int i ∧ z.length ≤ sizeLine ∧ atI z.cps.toList i = some c ∧ Q (.str ⟨#[c]⟩) H
theorem ix_list : IxR X (rIxL X.K) := by
  intro value slice pins s σ H x y v u Q I rx ry h hs
  obtain ⟨p, xs, i, z, rfl, rfl, hq, he, q⟩ := h
  cases rx
  obtain ⟨t, rfl⟩ := ry
  obtain ⟨its, r, pl, hz⟩ := I.list hq
  obtain ⟨j, h1, h2, h3, h4, h5⟩ := atI_get he
  obtain ⟨w, ew, rw'⟩ := r.get h2
  have hl := r.length
  have hn := line63
  have fin : EP X pins σ Q w s := ⟨z, H, I, rw', q⟩
  by_cases h0 : 0 ≤ i
  · have hj : i.toNat = j := by
      rw [seqIndex_of h0 h5] at h1
      exact Option.some.inj h1
    exact item_listR pl.isList h0 (by omega) (by rw [hj]; simpa using ew) fin hs
  · have hj : (i + (its.toArray.size : Int)).toNat = j := by
      rw [seqIndex_neg (by omega) h4] at h1
      rw [List.size_toArray, ← hl]
      exact Option.some.inj h1
    exact subscriptTail_builtinR (x := w) pl.isList.typeIs slot_list_getitem.lookup
      (wpAny_getItem_list_neg (Q := fun r s' => r = w ∧ EP X pins σ Q r s') pl.isList (by omega) (by rw [List.size_toArray] <;> omega) (by omega) (by rw [hj]; simpa using ew) ⟨rfl, fin⟩) hs
theorem Inv.lst {pins : List (Addr × Obj)} {σ : St} {H : Hp} {s : Shared} {p : Addr} {xs : List V} (I : Inv X pins σ H s) (h : H p = some (.lst xs)) :
    ∃ (its : List Value) (n : Nat), Vals xs its ∧ s.heap.get? p = some { cls := .type "list", data := .seq its.toArray n } ∧ xs.length ≤ sizeLine := by
  obtain ⟨z, its, n, r, e⟩ := I.hok p _ h
  exact ⟨its, n, r, e, z⟩
def rSetL : V → V → V → Hp → (Hp → Prop) → Prop := fun o i v H Q => ∃ p xs k j, o = .ref p ∧ i = .int k ∧ H p = some (.lst xs) ∧ ixN xs.length k = some j ∧ Q (upd H p (.lst (xs.set j v)))
def rSlL (K : PySem.W.Frag) : V → Option Int → Option Int → Hp → VK → Prop := fun x lo hi H Q => ∃ a xs, x = .ref a ∧ SqL K H a xs ∧ ∀ p, H p = none → Q (.ref p) (upd H p (.lst (cutV xs lo hi)))
def flatV : V → Bool
  | .non => true
  | .bl _ => true
  | .int _ => true
  | .str _ => true
  | _ => false
def eqV : V → V → Bool
  | .non, .non => true
  | .bl a, .bl b => a == b
  | .bl a, .int b => (if a then 1 else 0) == b
  | .int a, .bl b => a == (if b then 1 else 0)
  | .int a, .int b => a == b
  | .str a, .str b => a == b
  | _, _ => false
theorem eqAt_V {A : Around} {s : Shared} {y x : V} {u v : Value} (ry : RelV y u) (rx : RelV x v) (fy : flatV y = true) (fx : flatV x = true) : SeqAt.EqAt A s u v (eqV y x) := by
  cases y with
  | non =>
    cases ry
    cases x with
    | non => cases rx; exact SeqAt.EqAt.same _
    | bl b => cases rx; exact SeqAt.EqAt.none_bool b
    | int b => obtain ⟨t, rfl⟩ := rx; exact SeqAt.EqAt.none_int b t
    | str b => obtain ⟨t, rfl⟩ := rx; exact SeqAt.EqAt.none_str b t
    | _ => exact absurd (show false = true from fx) Bool.false_ne_true
  | bl a =>
    cases ry
    cases x with
    | non => cases rx; exact SeqAt.EqAt.bool_none a
    | bl b => cases rx; exact SeqAt.EqAt.bool_bool a b
    | int b => obtain ⟨t, rfl⟩ := rx; exact SeqAt.EqAt.bool_int a b t
    | str b => obtain ⟨t, rfl⟩ := rx; exact SeqAt.EqAt.bool_str a b t
    | _ => exact absurd (show false = true from fx) Bool.false_ne_true
  | int a =>
    obtain ⟨t', rfl⟩ := ry
    cases x with
    | non => cases rx; exact SeqAt.EqAt.int_none a t'
    | bl b => cases rx; exact SeqAt.EqAt.int_bool a t' b
    | int b => obtain ⟨t, rfl⟩ := rx; exact SeqAt.EqAt.int_int a t' b t
    | str b => obtain ⟨t, rfl⟩ := rx; exact SeqAt.EqAt.int_str a t' b t
    | _ => exact absurd (show false = true from fx) Bool.false_ne_true
  | str a =>
    obtain ⟨t', rfl⟩ := ry
    cases x with
    | non => cases rx; exact SeqAt.EqAt.str_none a t'
    | bl b => cases rx; exact SeqAt.EqAt.str_bool a t' b
    | int b => obtain ⟨t, rfl⟩ := rx; exact SeqAt.EqAt.str_int a t' b t
    | str b => obtain ⟨t, rfl⟩ := rx; exact SeqAt.EqAt.str_str a t' b t
    | _ => exact absurd (show false = true from fx) Bool.false_ne_true
  | _ => exact absurd (show false = true from fy) Bool.false_ne_true
def eqU (x : V) (u : Value) : Bool := match u with
  | .none => eqV .non x
  | .bool b => eqV (.bl b) x
  | .int i _ => eqV (.int i) x
  | .str z _ => eqV (.str z) x
  | _ => false
theorem eqU_of {x y : V} {u : Value} (r : RelV y u) (f : flatV y = true) : eqU x u = eqV y x := by
  cases y with
  | non => cases r; rfl
  | bl b => cases r; rfl
  | int i => obtain ⟨t, rfl⟩ := r; rfl
  | str z => obtain ⟨t, rfl⟩ := r; rfl
  | _ => exact absurd (show false = true from f) Bool.false_ne_true
theorem any_eqU {x : V} : ∀ {xs : List V} {us : List Value}, Vals xs us → xs.all flatV = true → us.any (eqU x) = xs.any fun y => eqV y x
  | _, _, .nil, _ => rfl
  | y :: xs, u :: us, .cons r t, f => by
    rw [List.all_cons, Bool.and_eq_true] at f
    rw [List.any_cons, List.any_cons, eqU_of r f.1, any_eqU t f.2]
theorem mem_eqAt {A : Around} {s : Shared} {x : V} {v : Value} (rx : RelV x v) (fx : flatV x = true) : ∀ {xs : List V} {us : List Value}, Vals xs us → xs.all flatV = true → ∀ u ∈ us, SeqAt.EqAt A s u v (eqU x u)
  | _, _, .nil, _ => fun u hu => by cases hu
  | y :: xs, u :: us, .cons r t, f => fun u' hu => by
    rw [List.all_cons, Bool.and_eq_true] at f
    rcases List.mem_cons.mp hu with rfl | hu
    · rw [eqU_of r f.1]; exact eqAt_V r rx f.1 fx
    · exact mem_eqAt rx fx t f.2 u' hu
def inV (x : V) (xs : List V) : Bool := xs.any fun y => eqV y x
def rIn (K : PySem.W.Frag) (neg : Bool) : R2 := fun x y H Q => ∃ p xs, y = .ref p ∧ (SqL K H p xs ∨ SqT K H p xs) ∧ flatV x = true ∧ xs.all flatV = true ∧ Q (.bl (if neg then !inV x xs else inV x xs)) H
theorem op_notIn_seq : OpR X (compareOp .NotIn) (rIn X.K true) := by
  intro pins s σ H x y v u Q I rx ry h
  obtain ⟨p, xs, rfl, hq, fx, fs, q⟩ := h
  cases ry
  rcases hq with hq | hq
  · obtain ⟨its, r, pl, hz⟩ := I.list hq
    refine SeqAt.notIn_listAt (eqU x) pl.isList (fun w hw => mem_eqAt rx fx r fs w (by simpa using hw)) ⟨.bl _, H, I, rfl, ?_⟩
    rw [show its.toArray.any (eqU x) = its.any (eqU x) by simp, any_eqU r fs]
    exact q
  · obtain ⟨its, r, pl, hz⟩ := I.tuple hq
    refine SeqAt.notIn_tupleAt (eqU x) pl (fun w hw => mem_eqAt rx fx r fs w (by simpa using hw)) ⟨.bl _, H, I, rfl, ?_⟩
    rw [show its.toArray.any (eqU x) = its.any (eqU x) by simp, any_eqU r fs]
    exact q
theorem call_len_seq : CallR X (.builtin "len") (fun xs H Q => ∃ p ys, xs = [.ref p] ∧ (SqL X.K H p ys ∨ SqT X.K H p ys) ∧ Q (.int ys.length) H) := by
  intro pins s σ H xs us Q I r h
  obtain ⟨p, ys, rfl, hq, q⟩ := h
  obtain ⟨u, rfl, rx⟩ := vals1 r
  cases rx
  have hn := line63
  rcases hq with hq | hq
  · obtain ⟨its, r', pl, hz⟩ := I.list hq
    have hlen := r'.length
    exact Calls.call_len_list pl.isList (by simp only [List.size_toArray] <;> omega) ⟨.int ys.length, H, I.tok _, ⟨s.toks + 1, by rw [List.size_toArray, hlen]⟩, q⟩
  · obtain ⟨its, r', pl, hz⟩ := I.tuple hq
    have hlen := r'.length
    exact len_tuple pl (by simp only [List.size_toArray] <;> omega) ⟨.int ys.length, H, I.tok _, ⟨s.toks + 1, by rw [List.size_toArray, hlen]⟩, q⟩
def tyV (K : PySem.W.Frag) (T : String) (x : V) (H : Hp) : Prop := match x with
  | .str _ => T = "str"
  | .int _ => T = "int"
  | .ref p => (T = "list" ∧ ∃ xs, SqL K H p xs) ∨ (T = "tuple" ∧ ∃ o, K.lookup p = some o ∧ o.cls = .type "tuple" ∧ o.dict = none) ∨
      (T = "dict" ∧ ((∃ kvs, H p = some (.dK kvs)) ∨ ∃ kvs, H p = some (.dT kvs))) ∨ (T = "set" ∧ ∃ S n, H p = some (.set S n))
  | _ => False
theorem tyV_is {pins : List (Addr × Obj)} {σ : St} {H : Hp} {s : Shared} {T : String} {x : V} {v : Value} (I : Inv X pins σ H s) (r : RelV x v) (ty : tyV X.K T x H) :
    s.TypeIs v T ∧ ∀ a, v = .ref a → ∃ ob, s.heap.get? a = some ob ∧ ob.dict = none := by
  cases x with
  | str z =>
    obtain ⟨t, rfl⟩ := r
    cases (show T = "str" from ty)
    exact ⟨typeIs_str s z t, fun _ e => nomatch e⟩
  | int i =>
    obtain ⟨t, rfl⟩ := r
    cases (show T = "int" from ty)
    exact ⟨typeIs_int s i t, fun _ e => nomatch e⟩
  | ref p =>
    cases r
    rcases ty with ⟨rfl, xs, hq⟩ | ⟨rfl, o, hk, hc, hd⟩ | ⟨rfl, hk⟩ | ⟨rfl, S, n, hk⟩
    · obtain ⟨its, _, pl, _⟩ := I.list hq
      refine ⟨pl.isList.typeIs, fun a e => ?_⟩
      cases e
      obtain ⟨o, n, e, c, hd, _⟩ := pl
      exact ⟨o, e, hd⟩
    · refine ⟨⟨o, I.kIn p o hk, hc⟩, fun a e => ?_⟩
      cases e
      exact ⟨o, I.kIn _ o hk, hd⟩
    · have z : ∃ o, s.heap.get? p = some o ∧ o.ExactDict := by
        rcases hk with ⟨kvs, hk⟩ | ⟨kvs, hk⟩
        · obtain ⟨_, _, _, _, o, _, _, e, ex, _⟩ := I.hok p _ hk
          exact ⟨o, e, ex⟩
        · obtain ⟨_, _, _, _, o, _, _, e, ex, _⟩ := I.hok p _ hk
          exact ⟨o, e, ex⟩
      obtain ⟨o, e, ex⟩ := z
      refine ⟨⟨o, e, ex.1⟩, fun a e2 => ?_⟩
      cases e2
      exact ⟨o, e, ex.2.1⟩
    · obtain ⟨o, _, _, _, e, ex, _⟩ := I.hok p _ hk
      refine ⟨⟨o, e, ex.1⟩, fun a e2 => ?_⟩
      cases e2
      exact ⟨o, e, ex.2.1⟩
  | _ => exact False.elim ty
def tBM0 (K : PySem.W.Frag) (T : String) (r : V → List V → Hp → VK → Prop) (to : TE) : TE := fun σ H Q => to σ H fun x H1 => tyV K T x H1 ∧ r x [] H1 Q
def tBM (K : PySem.W.Frag) (T : String) (r : V → List V → Hp → VK → Prop) (to : TE) (t : TA) : TE := fun σ H Q => to σ H fun x H1 => tyV K T x H1 ∧ t σ H1 fun xs H2 => r x xs H2 Q
variable {o e : Expr} {es : List Expr} {to : TE} {t : TA} {name : Str} {apos cpos : Pos} {T id : String} {r : V → List V → Hp → VK → Prop}
theorem pe_bm0 (pa : PlainAttrs T) (slot : Slot T name id) (hty : typeOf (.builtin id) = pure (.type "method_descriptor")) (hm : MtR X id r) (ho : PE X o to)
    (hbase : attributeBase o name X.env (eval o X.env) = eval o X.env := by rfl) (hline : (apos.endLine == cpos.line) = true := by rfl) : PE X (.Call (.Attribute o name apos) [] [] cpos) (tBM0 X.K T r to) := by
  intro pins s σ H Q I h
  refine wpAny_Call_method0_late hbase hline (thn (ho pins s σ H _ I h) fun v s1 ⟨x, H1, I1, r1, ty, q1⟩ => ?_)
  obtain ⟨h1, h2⟩ := tyV_is I1 r1 ty
  exact ⟨T, id, pa, slot, hty, h1, h2, Calls.callWith_builtin rfl (PySem.evalArgs_none (hm pins s1 σ H1 x [] v [] Q I1 r1 .nil q1))⟩
theorem pe_bm (pa : PlainAttrs T) (slot : Slot T name id) (hty : typeOf (.builtin id) = pure (.type "method_descriptor")) (hm : MtR X id r) (ho : PE X o to) (ha : PA X (e :: es) t)
    (hbase : attributeBase o name X.env (eval o X.env) = eval o X.env := by rfl)
    (hfew : ((backTo cpos (starEach (e :: es) X.env)).all (fun x => !x.1) && (backToKw cpos (keywordEach [] X.env)).all (fun x => x.1.isSome)
      && decide ((e :: es).length + ([] : List Keyword).length + (if ([] : List Keyword).isEmpty then 0 else 1) < 30)) = true := by rfl)
    (hline : (apos.endLine == cpos.line) = true := by rfl) (hs : starEach (e :: es) X.env = (false, eval e X.env) :: starEach es X.env := by rfl) (hplain : (backTo cpos (starEach es X.env)).any (·.1) = false := by rfl) :
    PE X (.Call (.Attribute o name apos) (e :: es) [] cpos) (tBM X.K T r to t) := by
  intro pins s σ H Q I h
  refine wpAny_Call_method_late hbase hfew hline rfl (thn (ho pins s σ H _ I h) fun v s1 ⟨x, H1, I1, r1, ty, q1⟩ => ?_)
  obtain ⟨h1, h2⟩ := tyV_is I1 r1 ty
  refine ⟨T, id, pa, slot, hty, h1, h2, ?_⟩
  have hA := ha cpos pins s1 σ H1 _ I1 q1
  rw [hs] at hA ⊢
  refine Calls.callWith_builtin (by show (false || (backTo cpos (starEach es X.env)).any (·.1)) = false; rw [hplain] <;> rfl) (Calls.evalArgs_plain ?_)
  exact thn hA fun us s2 ⟨vs, H2, I2, r2, q2⟩ => hm pins s2 σ H2 x vs v us Q I2 r1 r2 q2
end
end L2
namespace L2
open PySem PySem.Spec PyProof.Rows
def MtM (X : Cx) (id : String) (r : V → List V → Hp → VK → Prop) : Prop :=
  ∀ (pins : List (Addr × Obj)) (s : Shared) (σ : St) (H : Hp) (x : V) (xs : List V) (v : Value) (us : List Value) (Q : VK), Inv X pins σ H s → RelV x v → Vals xs us → r x xs H Q →
    wpAny (model X.prog X.w) X.A (call (.builtin id) (v :: us)) (EP X pins σ Q) X.xe s
theorem Vals.one : ∀ {x : V} {us : List Value}, Vals [x] us → ∃ u, us = [u] ∧ RelV x u
  | _, _, .cons r .nil => ⟨_, rfl, r⟩
theorem Vals.dropLast {xs : List V} {us : List Value} (h : Vals xs us) : Vals xs.dropLast us.dropLast := by
  induction h with
  | nil => exact .nil
  | cons r t ih =>
    cases t with
    | nil => exact .nil
    | cons q t' => exact .cons r ih
theorem Vals.eraseIdx : ∀ {xs : List V} {us : List Value} (i : Nat), Vals xs us → Vals (xs.eraseIdx i) (us.eraseIdx i)
  | _, _, _, .nil => .nil
  | _, _, 0, .cons _ t => t
  | _, _, i + 1, .cons r t => .cons r (Vals.eraseIdx i t)
theorem Vals.reverse {xs : List V} {us : List Value} (h : Vals xs us) : Vals xs.reverse us.reverse := by
  induction h with
  | nil => exact .nil
  | cons r t ih => rw [List.reverse_cons, List.reverse_cons]; exact Vals.append ih (.cons r .nil)
section
variable {X : Cx} {pins : List (Addr × Obj)} {σ : St} {H : Hp} {s : Shared} {l b : Addr} {xs ys zs : List V}
theorem Inv.lset {its its' : List Value} {n : Nat} {f : Array Value → Array Value} {t' : Nat} (I : Inv X pins σ H s) (hH : H l = some (.lst xs))
    (e : s.heap.get? l = some { cls := .type "list", data := .seq its.toArray n }) (hf : f its.toArray = its'.toArray) (hv : Vals ys its') (hz : ys.length ≤ sizeLine) :
    Inv X pins σ (upd H l (.lst ys)) { s with heap := s.heap.update l (Obj.mapSeq f), toks := t' } := by
  have q := PySem.IsL.update e f
  rw [hf] at q
  refine I.write (x := l) (e := l) (by rw [hH]; exact trivial) (.inl rfl) (fun b' u hb hu => (Heap.get?_update_other s.heap (Obj.mapSeq f) (Ne.symm hb)).trans hu) ⟨_, q⟩ ?_
  exact ⟨hz, its', _, hv, q⟩
theorem Inv.lnew {its : List Value} {t' : Nat} (I : Inv X pins σ H s) (hv : Vals ys its) (hz : ys.length ≤ sizeLine) :
    Inv X pins σ (upd H s.heap.objs.size (.lst ys)) { s with heap := s.heap.push { cls := .type "list", data := .seq its.toArray }, toks := t' } :=
  I.laid (fun _ _ q => Heap.get?_push_of_some _ q) (Nat.le_refl _) ⟨hz, its, 0, hv, Heap.get?_push_size _ rfl⟩
theorem Inv.fresh (I : Inv X pins σ H s) : H s.heap.objs.size = none := I.hok.fresh (Nat.le_refl _)
theorem Inv.lstM (I : Inv X pins σ H s) (hH : H l = some (.lst xs)) : xs.length ≤ sizeLine ∧ ∃ (its : List Value) (n : Nat), Vals xs its ∧ xs.length = its.length ∧ s.heap.get? l = some { cls := .type "list", data := .seq its.toArray n } := by
  obtain ⟨z, its, n, r, e⟩ := I.hok l _ hH
  exact ⟨z, its, n, r, r.length, e⟩
end
section
variable {X : Cx}
def rAppend : V → List V → Hp → VK → Prop := fun x vs H Q => ∃ l xs y, x = .ref l ∧ vs = [y] ∧ H l = some (.lst xs) ∧ xs.length < sizeLine ∧ Q .non (upd H l (.lst (xs ++ [y])))
theorem mt_append : MtM X "list.append" rAppend := by
  intro pins s σ H x vs v us Q I rx rv h
  obtain ⟨l, xs, y, rfl, rfl, hH, hz, q⟩ := h
  cases rx
  obtain ⟨u, rfl, ru⟩ := rv.one
  obtain ⟨z, its, n, r, hl, e⟩ := I.lstM hH
  refine call_meets F.slot_list_append ⟨_, e, rfl⟩ F.entry_list_append (F.args_list_append_2 _ _) (PySem.list_append l its.toArray n u (by rw [List.size_toArray]; omega)) ⟨e, ?_⟩
  refine ⟨.non, _, I.lset (its' := its ++ [u]) hH e (by simp) (r.append (.cons ru .nil)) ?_, rfl, q⟩
  rw [List.length_append, List.length_singleton]
  omega
def rPop : V → List V → Hp → VK → Prop := fun x vs H Q => ∃ l xs y, x = .ref l ∧ vs = [] ∧ H l = some (.lst xs) ∧ xs[xs.length - 1]? = some y ∧ Q y (upd H l (.lst xs.dropLast))
def rPopAt : V → List V → Hp → VK → Prop := fun x vs H Q => ∃ l xs i k y, x = .ref l ∧ vs = [.int i] ∧ H l = some (.lst xs) ∧ -(2 ^ 63) ≤ i ∧ i < 2 ^ 63 ∧ seqIndex? i xs.length = some k ∧ xs[k]? = some y ∧ Q y (upd H l (.lst (xs.eraseIdx k)))
def rCat : R2 := fun x y H Q => ∃ l b xs zs, x = .ref l ∧ y = .ref b ∧ H l = some (.lst xs) ∧ H b = some (.lst zs) ∧ xs.length + zs.length ≤ sizeLine ∧ ∀ p, H p = none → Q (.ref p) (upd H p (.lst (xs ++ zs)))
theorem op_cat : OpR X (binaryOp .Add) rCat := by
  intro pins s σ H x y v u Q I rx ry h
  obtain ⟨l, b, xs, zs, rfl, rfl, hH, hB, hz, q⟩ := h
  cases rx
  cases ry
  obtain ⟨z, its, n, r, hl, e⟩ := I.lstM hH
  obtain ⟨z2, its2, n2, r2, hl2, e2⟩ := I.lstM hB
  refine PySem.P.add_list e e2 ?_ (by rw [List.size_toArray, List.size_toArray]; omega)
  have ea : its.toArray ++ its2.toArray = (its ++ its2).toArray := by simp
  rw [ea]
  exact ⟨.ref _, _, I.lnew (t' := s.toks) (r.append r2) (by rw [List.length_append]; omega), rfl, q _ I.fresh⟩
end
section
variable {prog : Program} {w : World} {A : Around} {E : Value → Shared → Prop} {s : Shared}
end
section
variable {X : Cx}
end
end L2
namespace Att
open PySem PySem.W PySem.Calls PyProof.Rows
theorem ints_of_wellAll {P : Params} {h : Heap} : ∀ (ns : List Int) (vs : List Value), WellAll P h vs (ns.map WData.int) → IntsAre vs ns := by
  intro ns
  induction ns with
  | nil =>
    intro vs w
    rw [List.map_nil] at w
    cases w
    exact .nil
  | cons n ns ih =>
    intro vs w
    rw [List.map_cons] at w
    cases w with
    | cons a b =>
      cases a
      exact .cons _ _ (ih _ b)
theorem script_of {l : OpenLaw} {n : Nat} (hn : l.most = some n) {P : Params} {h : Heap} {args : List WData} {vals : List Value}
    (hpre : l.row.toRowW.claim.pre args = true) (hwl : WellAll P h vals args) :
    ∃ a vs ns, vals = [Value.ref a] ∧ args = [WData.list (ns.map WData.int)] ∧ h.get? a = some { cls := .type "list", data := .seq vs.toArray } ∧ IntsAre vs ns ∧ ns.length ≤ n := by
  have hsh : WShape.hasAll [] args [.list .int] = true := (pre_splitW hpre).1
  have hc : l.pre.holds [] { args := args } = true := (pre_splitW hpre).2
  obtain ⟨d, r, rfl, h1, h2⟩ := hasAllW_cons hsh
  obtain rfl := hasAllW_nil h2
  obtain ⟨xs, rfl, h3⟩ := hasW_list h1
  obtain ⟨ns, rfl⟩ := items_int h3
  have hlen : ns.length ≤ n := by
    unfold OpenLaw.pre at hc
    have h4 : (WTm.not (.lt (.lit (.int (n : Int))) (.len (.arg 0)))).holds [] { args := [.list (ns.map .int)] } = true := by
      have h4 := (holds_andW hc).1
      rw [hn] at h4
      exact h4
    have h5 := condW_of h4 (w_not (w_lt w_lit (w_len_list (w_arg rfl))))
    rw [List.length_map] at h5
    refine Nat.le_of_not_lt fun q => ?_
    have q' : (n : Int) < ((ns.length : Nat) : Int) := by omega
    first
      | (rw [decide_eq_true q'] at h5; exact absurd h5 (by decide))
      | (simp at h5; omega)
  cases hwl with
  | cons w1 w2 =>
    cases w2
    cases w1 with
    | list ho hall => exact ⟨_, _, ns, rfl, rfl, ho, ints_of_wellAll ns _ hall, hlen⟩
theorem post_true (l : OpenLaw) (args : List WData) : l.row.toRowW.claim.post args (.bool true) args = true :=
  postW_of (r := l.row.toRowW) (X := (true == true))
    (show WShape.has [] (.bool true) .bool = true by first | rfl | decide | simp [WShape.has, WShape.arms, WShape.armsAll])
    (show (WTm.eq .res (.lit (.bool true))).value [] { args := args, res := some (.bool true), after := args } = some (.bool (true == true)) from w_eq_bool (w_res rfl) w_lit) rfl
theorem attach_call {l : OpenLaw} {n : Nat} {q : Program} {loose : List Str} {XP : (Str → Option Value) → Heap → Prop} {YP : World → Heap → Prop} {d : DefRec}
    (hn : l.most = some n) (hdf : d.params.defaults = [])
    (call : ∀ (w : World) (s₀ s₁ : Shared) (mg mb : Str → Option Value) (fa : Addr) (o : Obj) (pm cd doc : Value) (a : Addr) (vs : List Value) (ns : List Int),
      Ground q loose [] XP w s₀ mg mb s₁.heap → YP w s₁.heap →
      s₁.heap.get? fa = some o → o.data = .func (docDef d.name d.params d.body d.scope pm cd doc) → s₁.heap.CodeRec cd d.name → mg d.name = some (.ref fa) →
      s₁.heap.get? a = some { cls := .type "list", data := .seq vs.toArray } → IntsAre vs ns → ns.length ≤ n → s₁.gens = #[] →
      codeAny (model l.prog w) callerA (.call (.ref fa) ⟨[.ref a], []⟩) (fun r s' => r = .ok (.ret (.bool true)) ∧ OldK s₁.heap s'.heap ∧ s'.os = s₁.os ∧ AllBare s'.gens) s₁) :
    WalkO q loose XP YP l.row.toRowW d [] (fun f vs => PySem.call f vs) := by
  intro w s₀ s₁ mg mb G Y fa o pm cd doc dV kV ho hd hcd hD hmg hg args vals as hpre hlay hrd hwl hlo
  obtain rfl : dV = .none := Dflts.none hD hdf
  obtain rfl : kV = .none := Dflts.noKw hD
  obtain ⟨a, vs, ns, rfl, rfl, hobj, hints, hlen⟩ := script_of hn hpre hwl
  refine enter_call (codeAny_mono (call w s₀ s₁ mg mb fa o pm cd doc a vs ns G Y ho (fd_plain hd) hcd hmg hobj hints hlen hg) fun r s' hq => ?_)
  obtain ⟨rfl, h2, h3, h4⟩ := hq
  exact ⟨.inl ⟨.bool true, .bool true, [], rfl, fun _ => rfl, .bool true, post_true l _, fun _ => ⟨List.Pairwise.nil, fun _ hm => (nomatch hm)⟩⟩, h2, h3, h4⟩
section
variable {prog : Program} {w : World} {A : Around} {E : Value → Shared → Prop} {s : Shared} {K : Frag}
end
end Att
namespace L2
open PySem PySem.Spec PyProof.Rows
theorem vals_ints : ∀ {vs : List Value} {ns : List Int}, IntsAre vs ns → Vals (ns.map V.int) vs
  | _, _, .nil => .nil
  | _, _, .cons n t h => .cons ⟨t, rfl⟩ (vals_ints h)
def Only (H : Hp) : Prop := ∀ b, H b = none ∨ ∃ o xs, H b = some (.frz o (.lst xs))
theorem law_call {P : Program} {w : World} {K : PySem.W.Frag} {mg mb : Str → Option Value} {CX : CXT} {k : Nat} {fa a : Addr} {fd : FuncData} {x : Str} {sp : Sp} {s₁ : Shared} {vs : List Value} {ns : List Int}
    (KX : K.In s₁.heap) (hns : s₁.heap.Ns mainGlobals mg) (hb : s₁.heap.Ns builtinsNs mb) (hbb : ∀ x : Str, x ≠ "__name__" → mb x = bootBuiltins x) (hlim : s₁.heap.NoLimit) (hg : s₁.gens = #[])
    (ha : s₁.heap.get? a = some { cls := .type "list", data := .seq vs.toArray }) (hi : IntsAre vs ns) (hl : ns.length ≤ sizeLine) (hr : Room k callerA)
    (F : ∀ base : Heap, K.In base → base.Ns mainGlobals mg → FnOk P w K mg base CX k fa fd [x] sp) (hbind : ∀ (s : Shared) (u : Value), BindsTo s fd ⟨[u], []⟩ [(x, u)])
    (hsp : ∀ H : Hp, Only H → SqL K H a (ns.map V.int) → sp [.ref a] H (fun v _ => v = .bl true) fun _ _ _ => False)
    (hCX : ∀ H e s', CX [] H s₁ (fun _ _ _ => False) e s' → False) :
    codeAny (model P w) callerA (.call (.ref fa) ⟨[.ref a], []⟩) (fun r s' => r = .ok (.ret (.bool true)) ∧ OldK s₁.heap s'.heap ∧ s'.os = s₁.os ∧ AllBare s'.gens) s₁ := by
  have rv := vals_ints hi
  have lenV := hi.length
  have core : ∀ H : Hp, Only H → SqL K H a (ns.map V.int) → HOk P w H s₁.heap → (∀ b, H b ≠ none → b = a) → (H a ≠ none → K.lookup a = none) →
      codeAny (model P w) callerA (.call (.ref fa) ⟨[.ref a], []⟩) (fun r s' => r = .ok (.ret (.bool true)) ∧ OldK s₁.heap s'.heap ∧ s'.os = s₁.os ∧ AllBare s'.gens) s₁ := by
    intro H hO hS hok hA hK
    have base_of : ∀ {b : Addr} {o : Obj}, s₁.heap.get? b = some o → H b = none → (hidT s₁.heap H).get? b = some o := fun e n => hidT_get e n
    have noA : ∀ {b : Addr} {o : Obj} {es : Array DictEntry} {ep : Nat}, s₁.heap.get? b = some o → o.data = .dict es ep → H b = none := fun {b o es ep} e d => by
      cases q : H b with
      | none => rfl
      | some u =>
        have e' : b = a := hA b (by rw [q]; simp)
        subst e'
        rw [ha] at e; cases e
        have d' : Data.seq vs.toArray _ = Data.dict es ep := d
        cases d'
    have nsK : ∀ {b : Addr} {m : Str → Option Value}, s₁.heap.Ns b m → (hidT s₁.heap H).Ns b m := fun {b m} ⟨o, es, ep, e, d, r⟩ => ⟨o, es, ep, base_of e (noA e d), d, r⟩
    have hKb : K.In (hidT s₁.heap H) := fun b o e => base_of (KX b o e) (by
      cases q : H b with
      | none => rfl
      | some u =>
        have e' : b = a := hA b (by rw [q]; simp)
        subst e'
        rw [hK (by rw [q]; simp)] at e; cases e)
    have hM : Mod K mg (hidT s₁.heap H) := ⟨hKb, nsK hns, ⟨mb, nsK hb, hbb⟩, let ⟨mc, h1, h2⟩ := hlim; ⟨mc, nsK h1, h2⟩⟩
    have e0 : Env0 P w K mg (hidT s₁.heap H) callerA [] s₁ H := ⟨rfl, hM, fun b o e => of_hidT e, Nat.le_of_eq (hidT_size _ _), trivial, fun b hb => absurd (show b ∈ ([] : List Addr) from hb) (by simp), hok, .of_eq hg⟩
    refine codeAny_mono ((F _ hKb (nsK hns)).run callerA [] s₁ H ⟨[.ref a], []⟩ [.ref a] [.ref a] _ _ hr e0 (hbind s₁ (.ref a)) (.cons rfl .nil) (hsp H hO hS)) fun r s' h => ?_
    cases r with
    | error e => exact (hCX H e s' h).elim
    | ok fl =>
      cases fl with
      | next => exact False.elim h
      | brk => exact False.elim h
      | cont => exact False.elim h
      | ret u =>
        obtain ⟨v, H', os, bare, un, hok', r', q⟩ := h
        have q' : v = .bl true := q
        subst q'
        obtain rfl : u = Value.bool true := r'
        refine ⟨rfl, OldK.of_keep fun b o e => ?_, os, bare⟩
        cases q : H b with
        | none => exact un.keep b o e q (by intro z; exact absurd (show b ∈ ([] : List Addr) from z) (by simp)) (by simp)
        | some u =>
          rcases hO b with z | ⟨ob, xs, z⟩
          · rw [q] at z; cases z
          · have z2 := un.frzs b ob _ z
            obtain ⟨e1, _⟩ := hok b _ z
            obtain ⟨e2, _⟩ := hok' b _ z2
            rw [e] at e1; cases e1
            exact e2
  cases hk : K.lookup a with
  | some o =>
    have e := KX a o hk
    rw [ha] at e
    cases e
    refine core (fun _ => none) (fun _ => .inl rfl) (.inr ⟨_, vs.toArray, _, hk, rfl, rfl, rfl, by rw [List.size_toArray, lenV]; exact hl, by simpa using rv⟩) (fun b u z => by have z' : (none : Option HO) = some u := z; cases z') (fun b z => absurd rfl z) fun z => absurd rfl z
  | none =>
    refine core (fun b => if b = a then some (.frz { cls := .type "list", data := .seq vs.toArray } (.lst (ns.map V.int))) else none) (fun b => ?_) (.inl (.inr ⟨{ cls := .type "list", data := .seq vs.toArray }, if_pos rfl⟩)) (fun b u z => ?_) (fun b z => ?_) fun _ => hk
    · by_cases hb : b = a
      · exact .inr ⟨_, _, if_pos hb⟩
      · exact .inl (if_neg hb)
    · by_cases hb : b = a
      · have z' := (if_pos hb).symm.trans z
        cases z'
        subst hb
        exact ⟨ha, by rw [List.length_map]; exact hl, vs, _, rv, ha⟩
      · have z' := (if_neg hb).symm.trans z
        cases z'
    · by_cases hb : b = a
      · exact hb
      · exact absurd (if_neg hb) z
end L2
namespace L2
open PySem PySem.Spec PyProof.Rows
theorem walk_of {l : PySem.W.OpenLaw} {n k : Nat} {q : Program} {loose : List Str} {XP : (Str → Option Value) → Heap → Prop} {YP : World → Heap → Prop} {d : DefRec} {K : Params → PySem.W.Frag} {CX : World → CXT} {sp : World → Sp} {x : Str}
    (hn : l.most = some n) (hn2 : n ≤ sizeLine) (hdf : d.params.defaults = []) (hr : Room k callerA)
    (hY : ∀ (w : World) (h : Heap), YP w h → (K w.params).In h)
    (F : ∀ (w : World) (mg : Str → Option Value) (fa : Addr) (h : Heap), (K w.params).In h → h.Ns mainGlobals mg → mg d.name = some (.ref fa) →
      ∃ fd : FuncData, (∀ (s : Shared) (u : Value), BindsTo s fd ⟨[u], []⟩ [(x, u)]) ∧
        ∀ base : Heap, (K w.params).In base → base.Ns mainGlobals mg → FnOk l.prog w (K w.params) mg base (CX w) k fa fd [x] (sp w))
    (hsp : ∀ (w : World) (H : Hp) (a : Addr) (ns : List Int), ns.length ≤ n → Only H → SqL (K w.params) H a (ns.map V.int) → sp w [.ref a] H (fun v _ => v = .bl true) fun _ _ _ => False)
    (hCX : ∀ (w : World) (H : Hp) (s : Shared) (e : Value) (s' : Shared), CX w [] H s (fun _ _ _ => False) e s' → False) :
    PySem.W.WalkO q loose XP YP l.row.toRowW d [] (fun f vs => PySem.call f vs) := by
  refine Att.attach_call hn hdf fun w s₀ s₁ mg mb fa o pm cd doc a vs ns G Y ho hd hcd hmg hobj hints hlen hg => ?_
  have KX := hY w _ Y
  obtain ⟨fd, hb, hF⟩ := F w mg fa _ KX G.T.g hmg
  exact law_call KX G.T.g G.T.b G.T.builtins G.T.nolimit hg hobj hints (Nat.le_trans hlen hn2) hr hF hb (fun H hO hS => hsp w H a ns hlen hO hS) fun H e s' => hCX w H s₁ e s'
end L2
namespace L2
open PySem PySem.Spec PyProof.Rows
def inClass (s : Stmt) (j : Nat) : Stmt := match s with
  | .ClassDef _ _ _ body _ _ _ _ _ _ _ => body.getD j (.Pass ⟨0, 0, 0, 0⟩)
  | _ => .Pass ⟨0, 0, 0, 0⟩
def defArgs (s : Stmt) : Arguments := match s with
  | .FunctionDef _ a _ _ _ _ _ _ _ _ => a
  | _ => { posonlyargs := [], args := [], vararg := none, kwonlyargs := [], kw_defaults := [], kwarg := none, defaults := [] }
def defBody (s : Stmt) : List Stmt := match s with
  | .FunctionDef _ _ b _ _ _ _ _ _ _ => b
  | _ => []
def defScope (s : Stmt) : Scope := match s with
  | .FunctionDef _ _ _ _ _ _ sc _ _ _ => sc
  | _ => { kind := .function, names := [], isGenerator := false, isCoroutine := false }
abbrev CX0 : CXT := fun _ _ _ _ _ _ => False
abbrev E0 : XK := fun _ _ _ => False
theorem pass0 {X : Cx} : Passes CX0 X E0 := fun _ _ _ _ _ _ _ h => h.elim
structure Fun (K : PySem.W.Frag) (x qual : Str) (st : Stmt) (f : Addr) (fd : FuncData) : Prop where
  ex : ∃ (oc : Value) (od : Option Addr) (kV doc pm : Value) (an : Option Addr) (cdv ct : Value) (osl : Array (Option Value)),
    fd = PySem.W.fnOf x qual (defArgs st) (defBody st) (defScope st) .none kV doc pm an cdv ct ∧ K.lookup f = some ⟨oc, od, .func fd, osl⟩ ∧ PySem.W.codeIn K cdv qual = true
  kp : PySem.W.keepIn K (.ref f) = true
section
variable {P : Program} {w : World} {K : PySem.W.Frag} {mg : Str → Option Value} {base : Heap}
theorem Fun.ok {x qual : Str} {st : Stmt} {f : Addr} {fd : FuncData} {N ps : List Str} {k : Nat} {sp : Sp} (F : Fun K x qual st f fd) (S : FnScope N ps (defScope st)) (len : ∀ vs H Q E, sp vs H Q E → vs.length = ps.length)
    (hbody : ∀ (cdv : Value) (A : Around) (outer : List Env) (s : Shared) (H : Hp) (vs : List V) (Q : VK) (E : XK), Room k (A.deeper (envOfC qual (defScope st) s.heap.objs.size f cdv)) → sp vs H Q E →
      ∃ t, PSs (cxOf CX0 P w K mg base N qual (defScope st) f cdv A outer s H E).nox (defBody st) t ∧ t { nx := fun _ H' => Q .non H', rt := Q } (start N vs) H) : FnOk P w K mg base CX0 (k + 1) f fd ps sp := by
  obtain ⟨oc, od, kV, doc, pm, an, cdv, ct, osl, rfl, lk, hcd⟩ := F.ex
  refine fn_of lk hcd S len fun A outer s H vs Q E hr hsp => ?_
  obtain ⟨t, h, q⟩ := hbody cdv A outer s H vs Q E hr hsp
  exact ⟨t, h.nox, q⟩
theorem Fun.binds {x qual : Str} {st : Stmt} {f : Addr} {fd : FuncData} {ps : List Str} (F : Fun K x qual st f fd)
    (h : ∀ (kV doc pm : Value) (an : Option Addr) (cdv ct : Value) (us : List Value), us.length = ps.length → bindArgs (PySem.W.fnOf x qual (defArgs st) (defBody st) (defScope st) .none kV doc pm an cdv ct) ⟨us, []⟩ = pure (ps.zip us)) : Binds K fd ps [] := by
  obtain ⟨oc, od, kV, doc, pm, an, cdv, ct, osl, rfl, lk, hcd⟩ := F.ex
  exact .all (h kV doc pm an cdv ct)
theorem fun_mk {x qual : Str} {st : Stmt} {f : Addr} {oc : Value} {od an : Option Addr} {osl : Array (Option Value)} {kV doc pm cdv ct : Value} (l : K.lookup f = some ⟨oc, od, .func (PySem.W.fnOf x qual (defArgs st) (defBody st) (defScope st) .none kV doc pm an cdv ct), osl⟩)
    (c : PySem.W.codeIn K cdv qual = true) (k : PySem.W.keepIn K (.ref f) = true) : Fun K x qual st f (PySem.W.fnOf x qual (defArgs st) (defBody st) (defScope st) .none kV doc pm an cdv ct) := ⟨⟨oc, od, kV, doc, pm, an, cdv, ct, osl, rfl, l, c⟩, k⟩
end
section
variable {X : Cx}
theorem pv (i : Nat) {x : Str} {pos : Pos} (hN : X.N[i]? = some x := by rfl) (hv : Vis X.env.scope x := by first | exact Or.inl rfl | exact Or.inr (Or.inl rfl) | exact Or.inr (Or.inr rfl)) (hd : (x == ("__debug__" : Str)) = false := by decide)
    (hcd : (x == ("__classdict__" : Str)) = false := by decide) : PE X (.Name x pos) (tVar i) := pe_var hN hv hd hcd
end
def Same (H H' : Hp) : Prop := ∀ b o, H b = some o → H' b = some o
theorem Same.refl (H : Hp) : Same H H := fun _ _ h => h
theorem Same.trans {H H1 H2 : Hp} (a : Same H H1) (b : Same H1 H2) : Same H H2 := fun c o h => b c o (a c o h)
theorem Same.free {H H' : Hp} (e : Same H H') {l : Addr} (h : H' l = Option.none) : H l = Option.none := by
  cases q : H l with
  | none => rfl
  | some o =>
    rw [e l o q] at h
    cases h
theorem Same.seq {K : PySem.W.Frag} {H H' : Hp} {a : Addr} {xs : List V} (e : Same H H') (h : SqL K H a xs) : SqL K H' a xs := by
  rcases h with (h | ⟨o, h⟩) | h
  · exact .inl (.inl (e _ _ h))
  · exact .inl (.inr ⟨o, e _ _ h⟩)
  · exact .inr h
end L2
set_option Elab.async false
set_option linter.all false
set_option maxRecDepth 100000
namespace L2
open PySem PySem.Spec PyProof.Rows
section
variable {κ : Type} [DecidableEq κ]
def valV (kvs : List (κ × V)) (k : κ) : Option V := (kvs.find? fun kv => decide (kv.1 = k)).map (·.2)
def putK (kvs : List (κ × V)) (k : κ) (v : V) : List (κ × V) :=
  if (kvs.any fun kv => decide (kv.1 = k)) = true then kvs.map (fun kv => if kv.1 = k then (kv.1, v) else kv) else kvs ++ [(k, v)]
def dropK (kvs : List (κ × V)) (k : κ) : List (κ × V) := kvs.filter fun kv => decide (kv.1 ≠ k)
theorem RelO.getD {o : Option V} {u : Option Value} {d : V} {d' : Value} (r : RelO o u) (rd : RelV d d') : RelV (o.getD d) (u.getD d') := by
  cases o with
  | none => cases u with
    | none => exact rd
    | some _ => exact (show False from r).elim
  | some _ => cases u with
    | none => exact (show False from r).elim
    | some _ => exact r
theorem KV.any {kvs : List (κ × V)} {vs : List (κ × Value)} (r : KV kvs vs) (k : κ) : (kvs.any fun kv => decide (kv.1 = k)) = vs.any fun kv => decide (kv.1 = k) := by
  unfold KV at r
  induction r with
  | nil => rfl
  | cons h t ih => rw [List.any_cons, List.any_cons, ih, h.1]
theorem KV.drop {kvs : List (κ × V)} {vs : List (κ × Value)} (r : KV kvs vs) (k : κ) : KV (dropK kvs k) (without vs k) := by
  unfold KV at r ⊢
  unfold dropK without
  induction r with
  | nil => exact .nil
  | @cons p q ps qs h t ih =>
    obtain ⟨h1, h2⟩ := h
    rw [List.filter_cons, List.filter_cons]
    by_cases e : p.1 = k
    · have a : ¬ decide (p.1 ≠ k) = true := by simp [e]
      have b : ¬ decide (q.1 ≠ k) = true := by simp [h1.symm.trans e]
      rw [if_neg a, if_neg b]; exact ih
    · have e' : ¬ q.1 = k := fun z => e (h1.trans z)
      have a : decide (p.1 ≠ k) = true := by simp [e]
      have b : decide (q.1 ≠ k) = true := by simp [e']
      rw [if_pos a, if_pos b]; exact .cons ⟨h1, h2⟩ ih
theorem KV.length {kvs : List (κ × V)} {vs : List (κ × Value)} (r : KV kvs vs) : kvs.length = vs.length := Paired.length r
end
abbrev KT (H : Hp) : List (List Key × V) → List (List Key × Addr × Value) → Prop := Paired fun p q => p.1 = q.1 ∧ H q.2.1 = some (.tup (p.1.map kV)) ∧ RelV p.2 q.2.2
theorem KT.keeps {H H' : Hp} {kvs : List (List Key × V)} {xs : List (List Key × Addr × Value)} (r : KT H kvs xs) (ht : ∀ b ys, H b = some (.tup ys) → H' b = some (.tup ys)) : KT H' kvs xs :=
  Paired.mapP r fun _ _ z => ⟨z.1, ht _ _ z.2.1, z.2.2⟩
section
variable {P : Program} {w : World} {H : Hp} {h : Heap} {a : Addr}
theorem rd_of {u : HO} (ok : HOk P w H h) (e : Rd H a u) : ObjOk P w H h a u := e.ok ok
theorem dk_rd {kvs : List (Key × V)} (ok : HOk P w H h) (e : Rd H a (.dK kvs)) : kvs.length ≤ sizeLine ∧ (a == sysModules) = false ∧ ∃ vs, KV kvs vs ∧ h.DictOf (mixKind P w) a vs :=
  show ObjOk P w H h a (.dK kvs) from rd_of ok e
end
def DGet (H : Hp) (a : Addr) (y : V) (r : Option V) : Prop :=
  (∃ kvs k, Rd H a (.dK kvs) ∧ y = kV k ∧ r = valV kvs k) ∨ ∃ kvs k b, Rd H a (.dT kvs) ∧ y = .ref b ∧ H b = some (.tup (k.map kV)) ∧ r = valV kvs k
def DPut (H : Hp) (a : Addr) (y v : V) (H' : Hp) : Prop :=
  (∃ kvs k, H a = some (.dK kvs) ∧ y = kV k ∧ kvs.length < sizeLine ∧ H' = upd H a (.dK (putK kvs k v))) ∨
  ∃ kvs k b, H a = some (.dT kvs) ∧ y = .ref b ∧ H b = some (.tup (k.map kV)) ∧ kvs.length < sizeLine ∧ H' = upd H a (.dT (putK kvs k v))
theorem DGet.k {H : Hp} {a : Addr} {kvs : List (Key × V)} {k : Key} (e : H a = some (.dK kvs)) : DGet H a (kV k) (valV kvs k) := .inl ⟨kvs, k, .inl e, rfl, rfl⟩
theorem DGet.t {H : Hp} {a b : Addr} {kvs : List (List Key × V)} {k : List Key} (e : H a = some (.dT kvs)) (eb : H b = some (.tup (k.map kV))) : DGet H a (.ref b) (valV kvs k) := .inr ⟨kvs, k, b, .inl e, rfl, eb, rfl⟩
theorem DPut.k {H : Hp} {a : Addr} {kvs : List (Key × V)} {k : Key} {v : V} (e : H a = some (.dK kvs)) (hl : kvs.length < sizeLine) : DPut H a (kV k) v (upd H a (.dK (putK kvs k v))) := .inl ⟨kvs, k, e, rfl, hl, rfl⟩
theorem DPut.t {H : Hp} {a b : Addr} {kvs : List (List Key × V)} {k : List Key} {v : V} (e : H a = some (.dT kvs)) (eb : H b = some (.tup (k.map kV))) (hl : kvs.length < sizeLine) :
    DPut H a (.ref b) v (upd H a (.dT (putK kvs k v))) := .inr ⟨kvs, k, b, e, rfl, eb, hl, rfl⟩
section
variable {X : Cx} {pins : List (Addr × Obj)} {σ : St} {H : Hp} {s : Shared} {a : Addr} {y v : V} {u r : Value} {o : Option V} {A : Around} {E : Value → Shared → Prop}
theorem Inv.big (I : Inv X pins σ H s) : sysModules < s.heap.objs.size := by
  have h : mainGlobals < s.heap.objs.size := (I.mod.glob.keeps I.bk).lt
  exact Nat.lt_trans (by decide) h
end
section
variable {X : Cx} {pins : List (Addr × Obj)} {σ : St} {H : Hp} {s : Shared} {a : Addr} {kvs : List (Key × V)} {k : Key} {u : Value} {A : Around} {E : Value → Shared → Prop}
theorem d_len {Q : Value → Shared → Prop} (I : Inv X pins σ H s) (e : Rd H a (.dK kvs)) (h : ∀ t s', Inv X pins σ H s' → Q (.int kvs.length t) s') : wpAny (model X.prog X.w) A (call (.builtin "len") [.ref a]) Q E s := by
  obtain ⟨z, hd, vs, rel, dd⟩ := dk_rd I.hok e
  refine call_len_dict hd dd (by rw [← rel.length]; rw [sizeLine_eq] at z; omega) ?_
  rw [← rel.length]
  exact h _ _ (I.tok _)
end
section
variable {X : Cx} {o i e value : Expr} {pos pos' tpos : Pos} {td ty tv : TE}
end
theorem dk_empty {P : Program} {w : World} {H : Hp} (h : Heap) (hb : sysModules < h.objs.size) : ObjOk P w H (h.push { cls := .type "dict", data := .dict #[] }) h.objs.size (.dK []) :=
  ⟨Nat.zero_le _, beq_eq_false_iff_ne.mpr (Ne.symm (Nat.ne_of_lt hb)), [], .nil, Heap.DictOf.new h⟩
def tDNewK : TE := fun _ H Q => ∀ p, H p = none → Q (.ref p) (upd H p (.dK []))
section
variable {X : Cx} {pos : Pos}
theorem pe_dnewK : PE X (.Dict [] [] pos) tDNewK := fun pins s σ H Q I h =>
  wpAny_Dict_empty ⟨.ref s.heap.objs.size, _, I.laid (a := s.heap.objs.size) (o := .dK []) (t' := s.toks) (fun _ _ q => Heap.get?_push_of_some _ q) (Nat.le_refl _) (dk_empty s.heap I.big), rfl, h _ (I.hok.fresh (Nat.le_refl _))⟩
end
section
variable {X : Cx} {pins : List (Addr × Obj)} {σ : St} {H : Hp} {s : Shared} {a : Addr} {y d : V} {u r : Value} {o : Option V} {A : Around} {E : Value → Shared → Prop}
end
section
variable {X : Cx} {o e f : Expr} {apos cpos : Pos} {td ty tx : TE}
end
section
variable {X : Cx} {pins : List (Addr × Obj)} {σ : St} {H : Hp} {s : Shared} {a : Addr} {kvs : List (Key × V)} {A : Around} {E : Value → Shared → Prop}
end
section
variable {X : Cx} {pins : List (Addr × Obj)} {σ : St} {H : Hp} {s : Shared} {a : Addr} {y : V} {u : Value} {A : Around} {E : Value → Shared → Prop}
end
end L2
namespace L2
open PySem PySem.Spec PyProof.Rows
section
variable {X : Cx}
end
section
variable {κ : Type} [DecidableEq κ]
end
end L2
set_option Elab.async false
set_option linter.all false
set_option maxRecDepth 100000
namespace L2
open PySem PySem.Spec PyProof.Rows
def cxComp (X : Cx) (scope : Scope) (cl : List (Str × Addr)) (N : List Str) (C : Addr) (ex : List Addr) (s₀ : Shared) (H₀ : Hp) : Cx where
  prog := X.prog
  w := X.w
  K := X.K
  mg := X.mg
  base := X.base
  A := X.A
  N := N
  s₀ := s₀
  H₀ := H₀
  env := compEnvC scope cl C X.env
  outer := X.stack
  stack := X.stack
  ex := ex
  fn := fun _ => false
  calm := X.calm
  pn := X.pn
  xe := fun _ _ => False
theorem calm_comp {X : Cx} {scope : Scope} {cl : List (Str × Addr)} {N : List Str} {C : Addr} {ex : List Addr} {s₀ : Shared} {H₀ : Hp} (c : Calm X) : Calm (cxComp X scope cl N C ex s₀ H₀) := c
structure CompScope (X : Cx) (scope : Scope) (tn cn : List Str) (caps : List Nat) : Prop where
  kind : scope.kind = .function
  nocell : ∀ y ∈ scope.names, y.2 ≠ .cell
  names : ∀ y ∈ scope.names, y.2 = .local → scope.names.lookup y.1 = some .local
  caught : ∀ y ∈ scope.names, y.2 = .free → X.env.kindOf y.1 = some .cell ∨ X.env.kindOf y.1 = some .free
  free : ∀ y ∈ cn, scope.names.lookup y = some .free
  slots : caps.map (fun j => X.N[j]?) = cn.map some
theorem CompScope.of {X : Cx} {scope osc : Scope} {tn cn : List Str} {caps : List Nat} (ho : X.env.scope = osc) (kind : scope.kind = .function) (nocell : ∀ y ∈ scope.names, y.2 ≠ .cell)
    (names : ∀ y ∈ scope.names, y.2 = .local → scope.names.lookup y.1 = some .local) (caught : ∀ y ∈ scope.names, y.2 = .free → osc.names.lookup y.1 = some .cell ∨ osc.names.lookup y.1 = some .free) (free : ∀ y ∈ cn, scope.names.lookup y = some .free)
    (slots : caps.map (fun j => X.N[j]?) = cn.map some) : CompScope X scope tn cn caps :=
  ⟨kind, nocell, names, fun y hy hf => by show X.env.scope.names.lookup y.1 = _ ∨ X.env.scope.names.lookup y.1 = _; rw [ho]; exact caught y hy hf, free, slots⟩
def capσ (σ : St) (caps : List Nat) : St := caps.map fun j => (σ[j]?).getD none
theorem closureFor_acc (env : Env) : ∀ (names : List (Str × NameKind)) (cs : List (Str × Addr)), (∀ x ∈ names, x.2 = .free → ∃ c, env.cells.lookup x.1 = some c) → (∀ y c, cs.lookup y = some c → env.cells.lookup y = some c) →
    ∃ cl : List (Str × Addr), (forIn names cs fun (x : Str × NameKind) (r : List (Str × Addr)) => (if (x.2 == NameKind.free) = true then do let a ← cellOf env x.1; pure (ForInStep.yield ((x.1, a) :: r)) else pure (ForInStep.yield r) : Sem (ForInStep (List (Str × Addr))))) = pure cl ∧
      (∀ y c, cl.lookup y = some c → env.cells.lookup y = some c) ∧ (∀ x ∈ names, x.2 = .free → ∃ c, cl.lookup x.1 = some c) ∧ ∀ y c, cs.lookup y = some c → ∃ c', cl.lookup y = some c'
  | [], cs, _, h2 => ⟨cs, by simp, h2, fun x h => absurd h (by simp), fun y c h => ⟨c, h⟩⟩
  | (n, k) :: r, cs, h1, h2 => by
    by_cases hk : (k == NameKind.free) = true
    · obtain ⟨c, hc⟩ := h1 (n, k) List.mem_cons_self (by simpa using hk)
      have h2' : ∀ y d, ((n, c) :: cs).lookup y = some d → env.cells.lookup y = some d := fun y d h => by
        rw [List.lookup_cons] at h
        split at h
        · rename_i e
          have e' : y = n := by simpa using e
          cases h
          rw [e']; exact hc
        · exact h2 y d h
      obtain ⟨cl, e, p1, p2, p3⟩ := closureFor_acc env r ((n, c) :: cs) (fun x hx => h1 x (List.mem_cons_of_mem _ hx)) h2'
      refine ⟨cl, ?_, p1, fun x hx hf => ?_, fun y d h => ?_⟩
      · rw [List.forIn_cons]
        simp only [hk, if_true, cellOf, hc, pure_bind]
        exact e
      · rcases List.mem_cons.mp hx with e1 | e1
        · subst e1
          exact p3 n c (by rw [List.lookup_cons]; simp)
        · exact p2 x e1 hf
      · by_cases hy : (y == n) = true
        · exact p3 y c (by rw [List.lookup_cons, hy])
        · exact p3 y d (by rw [List.lookup_cons]; simp only [Bool.not_eq_true] at hy; rw [hy]; exact h)
    · obtain ⟨cl, e, p1, p2, p3⟩ := closureFor_acc env r cs (fun x hx => h1 x (List.mem_cons_of_mem _ hx)) h2
      refine ⟨cl, ?_, p1, fun x hx hf => ?_, p3⟩
      · rw [List.forIn_cons]
        simp only [hk, if_false, pure_bind, Bool.false_eq_true]
        exact e
      · rcases List.mem_cons.mp hx with e1 | e1
        · subst e1
          exact absurd (by simpa using hf) hk
        · exact p2 x e1 hf
theorem closureFor_some {scope : Scope} {env : Env} (h : ∀ x ∈ scope.names, x.2 = .free → ∃ c, env.cells.lookup x.1 = some c) :
    ∃ cl : List (Str × Addr), closureFor scope env = pure cl ∧ (∀ y c, cl.lookup y = some c → env.cells.lookup y = some c) ∧ ∀ x ∈ scope.names, x.2 = .free → ∃ c, cl.lookup x.1 = some c := by
  obtain ⟨cl, e, p1, p2, _⟩ := closureFor_acc env scope.names [] h (fun y c h => by simp at h)
  refine ⟨cl, ?_, p1, p2⟩
  unfold closureFor
  simp only [bind_pure]
  first
    | exact e
    | (rw [← e]; rfl)
    | (rw [← e]; congr 1; funext x r; obtain ⟨n, k⟩ := x; by_cases hk : (k == NameKind.free) = true <;> simp [hk])
theorem lookup_relabel_free {env : Env} : ∀ {names : List (Str × NameKind)} {x : Str}, names.lookup x = some .free →
    (names.map fun (n, k) => if (k == NameKind.free && env.scope.kind == .function && env.kindOf n == some .cell) then (n, NameKind.cell) else (n, k)).lookup x = some .cell ∨
    (names.map fun (n, k) => if (k == NameKind.free && env.scope.kind == .function && env.kindOf n == some .cell) then (n, NameKind.cell) else (n, k)).lookup x = some .free
  | [], _, h => by simp at h
  | (n, k) :: r, x, h => by
    have ih := @lookup_relabel_free env r x
    show List.lookup x ((if (k == NameKind.free && env.scope.kind == .function && env.kindOf n == some .cell) = true then (n, NameKind.cell) else (n, k)) :: _) = _ ∨ List.lookup x ((if (k == NameKind.free && env.scope.kind == .function && env.kindOf n == some .cell) = true then (n, NameKind.cell) else (n, k)) :: _) = _
    cases hx : x == n with
    | true =>
      simp only [List.lookup_cons, hx] at h
      cases h
      by_cases hc : (NameKind.free == NameKind.free && env.scope.kind == .function && env.kindOf n == some .cell) = true
      · rw [if_pos hc]; simp [List.lookup_cons, hx]
      · rw [if_neg hc]; simp [List.lookup_cons, hx]
    | false =>
      simp only [List.lookup_cons, hx] at h
      by_cases hc : (k == NameKind.free && env.scope.kind == .function && env.kindOf n == some .cell) = true
      · rw [if_pos hc]; simp only [List.lookup_cons, hx]; exact ih h
      · rw [if_neg hc]; simp only [List.lookup_cons, hx]; exact ih h
theorem relabel_inv {env : Env} : ∀ {names : List (Str × NameKind)} {x : Str}, (∀ y ∈ names, y.2 ≠ .cell) →
    ((names.map fun (n, k) => if (k == NameKind.free && env.scope.kind == .function && env.kindOf n == some .cell) then (n, NameKind.cell) else (n, k)).lookup x = some .cell ∨
    (names.map fun (n, k) => if (k == NameKind.free && env.scope.kind == .function && env.kindOf n == some .cell) then (n, NameKind.cell) else (n, k)).lookup x = some .free) → names.lookup x = some .free
  | [], _, _, h => by simp at h
  | (n, k) :: r, x, hn, h => by
    have ih := @relabel_inv env r x (fun y hy => hn y (List.mem_cons_of_mem _ hy))
    have h : List.lookup x ((if (k == NameKind.free && env.scope.kind == .function && env.kindOf n == some .cell) = true then (n, NameKind.cell) else (n, k)) :: _) = _ ∨ List.lookup x ((if (k == NameKind.free && env.scope.kind == .function && env.kindOf n == some .cell) = true then (n, NameKind.cell) else (n, k)) :: _) = _ := h
    cases hx : x == n with
    | true =>
      simp only [List.lookup_cons, hx]
      by_cases hc : (k == NameKind.free && env.scope.kind == .function && env.kindOf n == some .cell) = true
      · have : (k == NameKind.free) = true := by
          simp only [Bool.and_eq_true] at hc; exact hc.1.1
        have : k = .free := by simpa using this
        rw [this]
      · rw [if_neg hc] at h
        simp only [List.lookup_cons, hx] at h
        rcases h with h | h
        · exact absurd (Option.some.inj h) (hn (n, k) List.mem_cons_self)
        · rw [Option.some.inj h]
    | false =>
      simp only [List.lookup_cons, hx]
      by_cases hc : (k == NameKind.free && env.scope.kind == .function && env.kindOf n == some .cell) = true
      · rw [if_pos hc] at h; simp only [List.lookup_cons, hx] at h; exact ih h
      · rw [if_neg hc] at h; simp only [List.lookup_cons, hx] at h; exact ih h
section
variable {X : Cx} {scope : Scope} {tn cn : List Str} {caps : List Nat} {pins : List (Addr × Obj)} {σ : St} {H : Hp} {s : Shared} {fp : List Addr} {cl : List (Str × Addr)} {ob : Obj}
theorem comp_ok (S : CompScope X scope tn cn caps) (I : Inv X pins σ H s) (hcl : ∀ y c, cl.lookup y = some c → X.env.cells.lookup y = some c) (hcl2 : ∀ x ∈ scope.names, x.2 = .free → ∃ c, cl.lookup x.1 = some c)
    (hf : ∀ b ∈ fp, FpOk X pins H b) (hfp : ∀ b ∈ fp, b < s.heap.objs.size) (N : List Str) :
    (cxComp X scope cl N (s.heap.push ob).objs.size (s.heap.objs.size :: fp) { s with heap := s.heap.push ob } H).Ok := by
  have hC : (s.heap.push ob).objs.size = s.heap.objs.size + 1 := by rw [Heap.size_push]
  refine ⟨I.ok.mod, S.kind, I.ok.glob, I.ok.blt, Nat.le_refl _, fun x y c h1 h2 => I.ok.inj x y c (hcl x c h1) (hcl y c h2), fun x hx => ?_, fun x c h => absurd h (by simp [cxComp]), I.ok.hd, I.ok.frames, .inl rfl, fun b hb => ?_,
    fun b o e => ⟨Heap.get?_push_of_some _ (I.bs b o e).1, (I.bs b o e).2⟩, ?_, fun b o e hb => ?_, fun b hb z => ?_, ?_, I.stkFree⟩
  · exact hcl2 (x, .free) (PySem.mem_of_lookup (relabel_inv S.nocell hx)) rfl
  · rcases List.mem_cons.mp (show b ∈ s.heap.objs.size :: fp from hb) with e | hb
    · subst e
      refine ⟨fun z => ?_, fun x c e z => ?_⟩
      · have z' : s.heap.objs.size = (s.heap.push ob).objs.size := z
        omega
      · obtain ⟨v, q⟩ := I.cell x c (hcl x c e)
        exact absurd q.lt (by rw [z]; exact Nat.lt_irrefl _)
    · refine ⟨fun z => ?_, fun x c e => (hf b hb).2.2.2.2.1 x c (hcl x c e)⟩
      have z' : b = (s.heap.push ob).objs.size := z
      have h1 := hfp b hb
      rw [z', hC] at h1
      exact Nat.lt_irrefl _ (Nat.lt_of_succ_lt h1)
  · show X.base.objs.size ≤ (s.heap.push ob).objs.size
    have h1 := I.ok.bsz
    have h2 := I.sz
    omega
  · rcases List.mem_cons.mp (show b ∈ s.heap.objs.size :: fp from hb) with e1 | hb
    · subst e1
      exact absurd (Heap.lt_size (I.bk _ o e)) (Nat.lt_irrefl _)
    · rcases (hf b hb).2.2.2.1 with z | z
      · exact I.ok.noex b o e z
      · have h1 := I.ok.bsz
        have h2 := Heap.lt_size e
        exact Nat.lt_irrefl _ (Nat.lt_of_lt_of_le h2 (Nat.le_trans h1 z))
  · have z' := I.stkSub b z
    rcases List.mem_cons.mp (show b ∈ s.heap.objs.size :: fp from hb) with e1 | hb
    · subst e1
      rcases List.mem_cons.mp z' with z1 | z1
      · exact absurd I.lt (by rw [← z1]; exact Nat.lt_irrefl _)
      · exact I.nofs (Nat.le_refl _) z1
    · rcases List.mem_cons.mp z' with z1 | z1
      · exact (hf b hb).2.1 z1
      · exact (hf b hb).2.2.1 z1
  · exact I.stack.of_keeps fun b o e _ => ⟨o, Heap.get?_push_of_some _ e, rfl⟩
theorem comp_inv (S : CompScope X scope tn cn caps) (I : Inv X pins σ H s) (hcl : ∀ y c, cl.lookup y = some c → X.env.cells.lookup y = some c) (hcl2 : ∀ x ∈ scope.names, x.2 = .free → ∃ c, cl.lookup x.1 = some c)
    (hf : ∀ b ∈ fp, FpOk X pins H b) (hfp : ∀ b ∈ fp, b < s.heap.objs.size) (hob : ∀ v, ob.data ≠ .cell v) (hfr : ob.isFreed = false) {h1 : Heap} {m0 : Str → Option Value} {tk : Nat} (hn : h1.Ns (s.heap.push ob).objs.size m0)
    (hk : ∀ b o, (s.heap.push ob).get? b = some o → h1.get? b = some o) :
    Inv (cxComp X scope cl (tn ++ cn) (s.heap.push ob).objs.size (s.heap.objs.size :: fp) { s with heap := s.heap.push ob } H) (X.pn ++ pins ++ [(s.heap.objs.size, ob)]) (List.replicate tn.length none ++ capσ σ caps) H { s with heap := h1, toks := tk } := by
  have hC : (s.heap.push ob).objs.size = s.heap.objs.size + 1 := by rw [Heap.size_push]
  have hk' : ∀ b o, s.heap.get? b = some o → h1.get? b = some o := fun b o e => hk b o (Heap.get?_push_of_some _ e)
  have hlen : caps.length = cn.length := by have := congrArg List.length S.slots; simpa using this
  refine ⟨comp_ok S I hcl hcl2 hf hfp _, rfl, I.bare, Un.kept hk, ⟨m0, hn, fun i x v e1 e2 e3 => ?_⟩, fun x c e => ?_, I.hok.fresh (by rw [hC]; exact Nat.le_succ _), fun x c e => I.freeC x c (hcl x c e), fun p hp => ?_, I.hok.kept hk', ?_⟩
  · have e1 : (tn ++ cn)[i]? = some x := e1
    by_cases hi : i < tn.length
    · rw [List.getElem?_append_left (by simpa using hi), List.getElem?_replicate, if_pos hi] at e2
      cases e2
    · have hi' : tn.length ≤ i := Nat.le_of_not_lt hi
      rw [List.getElem?_append_right (by simpa using hi'), List.length_replicate] at e2
      rw [List.getElem?_append_right hi'] at e1
      have hx : x ∈ cn := List.mem_of_getElem? e1
      have hsl : (caps.map fun j => X.N[j]?)[i - tn.length]? = (cn.map some)[i - tn.length]? := by rw [S.slots]
      rw [List.getElem?_map, List.getElem?_map, e1] at hsl
      unfold capσ at e2
      rw [List.getElem?_map] at e2
      cases hj : caps[i - tn.length]? with
      | none => rw [hj] at e2; cases e2
      | some j =>
        rw [hj] at hsl e2
        have hN : X.N[j]? = some x := Option.some.inj hsl
        have e2 : (σ[j]?).getD none = some v := Option.some.inj e2
        have hσ : σ[j]? = some (some v) := by
          cases q : σ[j]? with
          | none => rw [q] at e2; cases e2
          | some y => rw [q] at e2; rw [← e2]; rfl
        have hkx := S.caught (x, .free) (PySem.mem_of_lookup (S.free x hx)) rfl
        obtain ⟨m, _, hl⟩ := I.loc
        obtain ⟨u, r, l⟩ := hl j x v hN hσ (by rcases hkx with z | z; exact .inr (.inl z); exact .inr (.inr z))
        refine ⟨u, r, ?_⟩
        rcases l with ⟨k, _⟩ | ⟨k, c, e, z⟩
        · rcases hkx with z | z
          · rw [show X.env.kindOf x = _ from k] at z; cases z
          · rw [show X.env.kindOf x = _ from k] at z; cases z
        · obtain ⟨c', ec⟩ := hcl2 (x, .free) (PySem.mem_of_lookup (S.free x hx)) rfl
          have e' := hcl x c' ec
          rw [e] at e'
          cases e'
          obtain ⟨oc, ho, hd⟩ := z
          exact .inr ⟨lookup_relabel_free (S.free x hx), c, ec, oc, hk' c oc ho, hd⟩
  · obtain ⟨v, oc, ho, hd⟩ := I.cell x c (hcl x c e)
    exact ⟨v, oc, hk' c oc ho, hd⟩
  · have hp : p ∈ X.pn ++ pins ++ [(s.heap.objs.size, ob)] := (List.mem_append.mp hp).elim (fun z => List.mem_append_left _ (List.mem_append_left _ z)) id
    rcases List.mem_append.mp hp with hp | hp
    · obtain ⟨e, n, ne, nf, d⟩ := I.pin p hp
      refine ⟨hk' _ _ e, n, fun z => ?_, fun z => ?_, d⟩
      · have z' : p.1 = (s.heap.push ob).objs.size := z
        have h1 := Heap.lt_size e
        rw [z', hC] at h1
        exact Nat.lt_irrefl _ (Nat.lt_of_succ_lt h1)
      · rcases List.mem_cons.mp (I.stkSub p.1 z) with z1 | z1
        · exact ne z1
        · exact nf z1
    · have e : p = (s.heap.objs.size, ob) := by simpa using hp
      subst e
      refine ⟨hk _ _ (Heap.get?_push_size _ hfr), I.hok.fresh (Nat.le_refl _), fun z => ?_, fun z => ?_, hob⟩
      · have z' : s.heap.objs.size = (s.heap.push ob).objs.size := z
        omega
      · rcases List.mem_cons.mp (I.stkSub s.heap.objs.size z) with z1 | z1
        · exact absurd I.lt (by rw [← z1]; exact Nat.lt_irrefl _)
        · exact I.nofs (Nat.le_refl _) z1
  · show (List.replicate tn.length none ++ capσ σ caps).length = (tn ++ cn).length
    unfold capσ
    simp [hlen]
theorem comp_fin {N : List Str} {σ0 : St} {H' : Hp} {s' : Shared} {C : Addr} {s3 : Shared} {its : List Value} {n : Nat} {ys : List V} (I : Inv X pins σ H s) (hf : ∀ b ∈ fp, FpOk X pins H b) (hfp : ∀ b ∈ fp, b < s.heap.objs.size) (hC : s.heap.objs.size < C)
    (hs3 : ∀ b o, s.heap.get? b = some o → s3.heap.get? b = some o) (hos : s3.os = s.os)
    (I' : Inv (cxComp X scope cl N C (s.heap.objs.size :: fp) s3 H) (X.pn ++ pins ++ [(s.heap.objs.size, { cls := .type "list", data := .seq its.toArray n })]) σ0 H' s') (rv : Vals ys its) (hz : ys.length ≤ sizeLine) :
    Inv X pins σ (upd H' s.heap.objs.size (.lst ys)) s' ∧ H' s.heap.objs.size = none ∧ FpOk X pins (upd H' s.heap.objs.size (.lst ys)) C ∧ ∃ m, s'.heap.Ns C m := by
  have pD := I'.pin (s.heap.objs.size, { cls := .type "list", data := .seq its.toArray n }) (by show _ ∈ X.pn ++ (X.pn ++ pins ++ [_]); simp)
  have hD : H' s.heap.objs.size = none := pD.2.1
  have base : Un (frs X.stack) (s.heap.objs.size :: fp) H H' s3.heap s'.heap := I'.base
  have old : ∀ b o, s.heap.get? b = some o → b ≠ s.heap.objs.size := fun b o e => Nat.ne_of_lt (Heap.lt_size e)
  have nex : ∀ b o, s.heap.get? b = some o → b ∉ fp → b ∉ s.heap.objs.size :: fp := fun b o e h z => by
    rcases List.mem_cons.mp z with z | z
    · exact old b o e z
    · exact h z
  have oldT : ∀ b u, H b = some u → b ≠ s.heap.objs.size := fun b u e => Nat.ne_of_lt (I.hok.lt e)
  refine ⟨I.call' (ch := fp) (I'.os.trans hos) ⟨fun b o e n hb hx => base.keep b o (hs3 b o e) n hb (nex b o e hx), fun b o e n hb hx => base.slot b o (hs3 b o e) n hb (nex b o e hx), fun b o e n hx => ?_, fun b o e hx => base.there b o (hs3 b o e) (nex b o e hx),
    fun b xs e => ?_, fun b o u e => ?_, fun b ps e => ?_⟩ (fun a o e => ?_) I'.bare fun b hb => ?_, hD, I.fpOk (Nat.le_of_lt hC) ?_, ?_⟩
  · rw [upd_ne (old b o e)]; exact base.free b o (hs3 b o e) n (nex b o e hx)
  · rw [upd_ne (oldT b _ e)]; exact base.tups b xs e
  · rw [upd_ne (oldT b _ e)]; exact base.frzs b o u e
  · rw [upd_ne (oldT b _ e)]; exact base.tbls b ps e
  · by_cases ha : a = s.heap.objs.size
    · subst ha
      rw [upd_same] at e
      cases e
      exact ⟨hz, its, n, rv, pD.1⟩
    · rw [upd_ne ha] at e
      exact (I'.hok a o e).stay (fun _ _ _ q => q) (fun c q => by rw [upd_ne (ne_of_none q hD)]; exact q) fun c xs q => by rw [upd_ne (ne_of_none q hD)]; exact q
  · have q := hf b hb
    exact ⟨q.2.2.2.1, q.2.1, q.2.2.2.2.1, q.2.2.2.2.2⟩
  · rw [upd_ne (Nat.ne_of_gt hC)]; exact I'.free
  · obtain ⟨m, hn, _⟩ := I'.loc
    exact ⟨m, hn⟩
end
def PTs (X : Cx) (ifs : List Expr) (t : TT) : Prop :=
  ∀ (pins : List (Addr × Obj)) (s : Shared) (σ : St) (H : Hp) (Q : Bool → Hp → Prop), Inv X pins σ H s → t σ H Q →
    wpAny (model X.prog X.w) X.A (forIn ifs true fun c r => if r = true then do let ok ← isTrue c X.env (eval c X.env); pure (ForInStep.yield ok) else pure (ForInStep.yield r)) (TP X pins σ Q) X.xe s
theorem pts_one {X : Cx} {c : Expr} {t : TT} (h : PT X c t) : PTs X [c] t := fun pins s σ H Q I hw => wpAny_tests_one (h pins s σ H Q I hw)
theorem compLoop_own {prog : Program} {w : World} {A : Around} {R : Result → Shared → Prop} {s : Shared} {elt target iter : Expr} {ifs : List Expr} {scope : Scope} {pos : Pos} {it acc : Value} {env : Env} (I : Nat → Shared → Prop)
    (turn : ∀ n s, I n s → wpAny (model prog w) A (pyNext it) (fun r s₁ => match r with
      | none => R (.ok .next) s₁
      | some v => wpAny (model prog w) A (letOwnedTupleGo target it v) (fun _ s₁' => wpAny (model prog w) A (assign target env v) (fun _ s₂ =>
          wpAny (model prog w) A (forIn ifs true fun c r => if r = true then do let ok ← isTrue c env (eval c env); pure (ForInStep.yield ok) else pure (ForInStep.yield r)) (fun ok s₃ =>
            if ok = true then wpAny (model prog w) A (eval elt env) (fun x s₄ =>
              wpAny (model prog w) A (call (.builtin "list.append") [acc, x]) (fun _ s₅ => ∃ m, m < n ∧ I m s₅) (fun _ _ => False) s₄) (fun _ _ => False) s₃
            else ∃ m, m < n ∧ I m s₃) (fun _ _ => False) s₂) (fun _ _ => False) s₁') (fun _ _ => False) s₁) (fun _ _ => False) s)
    (n : Nat) (h : I n s) :
    codeAny (model prog w) A (.compLoop (.ListComp elt [⟨target, iter, ifs, 0⟩] scope pos) 0 it acc env) R s := by
  refine codeAny_loop rfl I (fun n s hI => ?_) n h
  show wpAny _ A ((compTurn (.ListComp elt [⟨target, iter, ifs, 0⟩] scope pos) 0 it acc env).onRaise (fun x => do noteFrame x env; theTreesLotGoes x)) _ _ s
  refine wpAny_noted ?_
  rw [compTurn_list]
  refine wpAny_bind (wpAny_standAt (wpAny_bind (wpAny_mono (turn n s hI) (fun r s₁ h₁ => ?_) fun _ _ h' => h'.elim)))
  cases r with
  | none => exact wpAny_pure h₁
  | some v =>
    refine wpAny_bind (wpAny_mono h₁ (fun _ s₁' h₁' => ?_) fun _ _ h' => h'.elim)
    refine wpAny_bind (wpAny_mono h₁' (fun _ s₂ h₂ => wpAny_bind (wpAny_mono h₂ (fun ok s₃ h₃ => ?_) fun _ _ h' => h'.elim)) fun _ _ h' => h'.elim)
    cases ok with
    | false => exact wpAny_pure ⟨rfl, h₃⟩
    | true =>
      exact wpAny_bind (wpAny_bind (wpAny_mono h₃ (fun x s₄ h₄ => wpAny_bind (wpAny_mono h₄ (fun _ s₅ h₅ => wpAny_pure (wpAny_pure ⟨rfl, h₅⟩)) fun _ _ h' => h'.elim)) fun _ _ h' => h'.elim))
def CompW (J : It) (g : TG) (tt : TT) (te : TE) (σ0 : St) (W : Nat → Nat → List V → Hp → Prop) (F : List V → Hp → Prop) : Prop :=
  ∀ i m ys H, W i m ys H → (J.stop i H ∧ ys.length ≤ sizeLine ∧ F ys H) ∨ (J.go i H ∧ ∃ N : List V → Hp → Prop, (∀ ys' H', N ys' H' → ∃ m', m' < m ∧ W (i + 1) m' ys' H') ∧
    ∀ x H', J.yld i H x H' → g x σ0 H' fun σ2 H2 => (σ2.length = σ0.length ∧ ∀ (j : Nat) (v : V), σ0[j]? = some (some v) → σ2[j]? = some (some v)) ∧
      tt σ2 H2 fun b H3 => if b = true then te σ2 H3 fun y H4 => ys.length ≤ sizeLine ∧ N (ys ++ [y]) H4 else N ys H3)
section
variable {X : Cx} {scope : Scope} {tn cn : List Str} {caps : List Nat}
theorem comp_block {tg iter elt : Expr} {ifs : List Expr} {pos : Pos} {g : TG} {tt : TT} {te : TE} {pins : List (Addr × Obj)} {σ : St} {H : Hp} {s : Shared} {it : Addr} {fp : List Addr} {tnn : Nat → Heap → Prop} {J : It} {cl : List (Str × Addr)}
    {W : Nat → Nat → List V → Hp → Prop} {F : List V → Hp → Prop} {m0 : Nat} {E : Value → Shared → Prop} {RR : Value → Addr → Result → Shared → Prop}
    (S : CompScope X scope tn cn caps) (hc : Calm X) (hcl : ∀ y c, cl.lookup y = some c → X.env.cells.lookup y = some c) (hcl2 : ∀ x ∈ scope.names, x.2 = .free → ∃ c, cl.lookup x.1 = some c)
    (hg : ∀ C ex s₀ H₀, PG (cxComp X scope cl (tn ++ cn) C ex s₀ H₀) tg g) (ht : ∀ C ex s₀ H₀, PTs (cxComp X scope cl (tn ++ cn) C ex s₀ H₀) ifs tt) (he : ∀ C ex s₀ H₀, PE (cxComp X scope cl (tn ++ cn) C ex s₀ H₀) elt te)
    (I : Inv X pins σ H s) (T : Turn X.prog X.w X.K tg J fp it tnn) (st : tnn 0 s.heap) (hf : ∀ b ∈ fp, FpOk X pins H b) (hW : CompW J g tt te (List.replicate tn.length none ++ capσ σ caps) W F) (w0 : W 0 m0 [] H)
    (hRR : ∀ D C s' H' ys m, H' D = none → F ys H' → Inv X pins σ (upd H' D (.lst ys)) s' → FpOk X pins (upd H' D (.lst ys)) C → s'.heap.Ns C m → RR (.ref D) C (.ok .next) s') :
    wpAny (model X.prog X.w) X.A (newList []) (fun acc s₃ => wpAny (model X.prog X.w) X.A (newFunctionEnv scope X.env.globals cl [] X.env.qual none .none (some X.env)) (fun cenv s₄ =>
      codeAny (model X.prog X.w) X.A (.compStart (.ListComp elt [⟨tg, iter, ifs, 0⟩] scope pos) 0 (.ref it) acc { cenv with scope := relabel scope X.env }) (RR acc cenv.locals) s₄) E s₃) E s := by
  have hfp : ∀ b ∈ fp, b < s.heap.objs.size := fun b hb => let ⟨o, e, _⟩ := T.obj 0 s.heap st b hb; Heap.lt_size e
  refine wpAny_newObj_type (wpAny_newFunctionEnv S.nocell (by intro y hy; simp at hy) (fun h₁ hns₁ hsb₁ => ?_) S.kind)
  dsimp only at hns₁ hsb₁ ⊢
  have hk : ∀ b o, (s.heap.push { cls := .type "list", dict := none, data := .seq ([] : List Value).toArray }).get? b = some o → h₁.get? b = some o := fun b o e =>
    hsb₁.extBut b o (Nat.ne_of_lt (Heap.lt_size e)) (Heap.get?_push_of_some _ e)
  have I1 := comp_inv (tk := s.toks + ([] : List (Str × Value)).length) S I hcl hcl2 hf hfp (ob := { cls := .type "list", dict := none, data := .seq ([] : List Value).toArray }) (fun v z => by cases z) rfl hns₁ hk
  have hC : (s.heap.push { cls := .type "list", dict := none, data := .seq ([] : List Value).toArray }).objs.size = s.heap.objs.size + 1 := by rw [Heap.size_push]
  generalize hCe : (s.heap.push { cls := .type "list", dict := none, data := .seq ([] : List Value).toArray }).objs.size = C at *
  have st1 : tnn 0 h₁ := T.keep 0 _ _ st fun b hb o e => hk b o (Heap.get?_push_of_some _ e)
  have hE : ∀ b o, s.heap.get? b = some o → ({ s with heap := s.heap.push { cls := .type "list", dict := none, data := .seq ([] : List Value).toArray } } : Shared).heap.get? b = some o := fun b o e => Heap.get?_push_of_some _ e
  generalize hs3 : ({ s with heap := s.heap.push { cls := .type "list", dict := none, data := .seq ([] : List Value).toArray } } : Shared) = s3 at *
  have hos : s3.os = s.os := by rw [← hs3]
  have hfp0 : ∀ b ∈ fp, H b = none := fun b hb => (hf b hb).1
  have stat : ∀ {its : List Value} {n : Nat} {H' : Hp}, (∀ b ∈ fp, H' b = none) → ∀ b ∈ fp, FpOk (cxComp X scope cl (tn ++ cn) C (s.heap.objs.size :: fp) s3 H) (X.pn ++ pins ++ [(s.heap.objs.size, { cls := .type "list", data := .seq its.toArray n })]) H' b := fun {its n H'} hn b hb => by
    have q := hf b hb
    have hlt := hfp b hb
    refine ⟨hn b hb, fun z => ?_, fun z => ?_, .inl (List.mem_cons_of_mem _ hb), fun x c e => q.2.2.2.2.1 x c (hcl x c e), fun p hp z => ?_⟩
    · have z' : b = C := z
      rw [z', hC] at hlt
      exact Nat.lt_irrefl _ (Nat.lt_of_succ_lt hlt)
    · rcases List.mem_cons.mp (I.stkSub b z) with z1 | z1
      · exact q.2.1 z1
      · exact q.2.2.1 z1
    · have hp : p ∈ X.pn ++ pins ++ [(s.heap.objs.size, _)] := (List.mem_append.mp hp).elim (fun z => List.mem_append_left _ (List.mem_append_left _ z)) id
      rcases List.mem_append.mp hp with hp | hp
      · exact q.2.2.2.2.2 p hp z
      · have e := List.mem_singleton.mp hp
        rw [e] at z
        have z' : s.heap.objs.size = b := z
        rw [← z'] at hlt
        exact Nat.lt_irrefl _ hlt
  have loop : ∀ s₄ : Shared, s₄ = { s with heap := h₁, toks := s.toks + ([] : List (Str × Value)).length } →
      codeAny (model X.prog X.w) X.A (.compLoop (.ListComp elt [⟨tg, iter, ifs, 0⟩] scope pos) 0 (.ref it) (.ref s.heap.objs.size) (compEnvC scope cl C X.env)) (RR (.ref s.heap.objs.size) C) s₄ := by
    rintro s₄ rfl
    refine compLoop_own (fun n s' => ∃ i ys its k H', Inv (cxComp X scope cl (tn ++ cn) C (s.heap.objs.size :: fp) s3 H) (X.pn ++ pins ++ [(s.heap.objs.size, { cls := .type "list", data := .seq (List.toArray its) k })]) (List.replicate tn.length none ++ capσ σ caps) H' s' ∧
      tnn i s'.heap ∧ (∀ b ∈ fp, H' b = none) ∧ Vals ys its ∧ W i n ys H') ?_ m0 ⟨0, [], [], 0, H, I1, st1, hfp0, .nil, w0⟩
    rintro n s5 ⟨i, ys, its, k, H5, I5, st5, fr5, rv5, w5⟩
    rcases hW i n ys H5 w5 with ⟨stop, hz, f5⟩ | ⟨go, Nw, hNw, step⟩
    · refine wpAny_mono (T.done (cxComp X scope cl (tn ++ cn) C (s.heap.objs.size :: fp) s3 H) rfl rfl rfl (calm_comp hc) i _ s5 _ H5 (fun _ _ => False) I5 (stat fr5) st5 stop) (fun r s6 h6 => ?_) fun _ _ z => z
      obtain ⟨hr, I6⟩ := h6
      subst hr
      obtain ⟨J1, J2, J3, m, J4⟩ := comp_fin I hf hfp (by omega) hE hos I6 rv5 hz
      exact hRR _ _ _ _ _ m J2 f5 J1 J3 J4
    · refine wpAny_mono (T.item (cxComp X scope cl (tn ++ cn) C (s.heap.objs.size :: fp) s3 H) rfl rfl rfl (calm_comp hc) i _ s5 _ H5 (fun _ _ => False) I5 (stat fr5) st5 go) (fun r s6 h6 => ?_) fun _ _ z => z
      obtain ⟨u, hr, h6⟩ := h6
      subst hr
      refine wpAny_mono h6 (fun _ s7 h7 => ?_) fun _ _ z => z
      obtain ⟨x, H7, I7, r7, y7, st7, fr7⟩ := h7
      have I7' := I7.pinned (stat fr7) (T.obj _ _ st7)
      refine wpAny_mono (hg C (s.heap.objs.size :: fp) s3 H _ s7 _ H7 x u _ I7' r7 (step x H7 y7)) (fun _ s8 h8 => ?_) fun _ _ z => z
      obtain ⟨σ8, H8, I8, ⟨hl8, hk8⟩, q8⟩ := h8
      have back : ∀ {H9 : Hp} {s9 : Shared}, Inv (cxComp X scope cl (tn ++ cn) C (s.heap.objs.size :: fp) s3 H) (X.pn ++ pins ++ [(s.heap.objs.size, { cls := .type "list", data := .seq (List.toArray its) k })] ++ pinsAt fp s7.heap) σ8 H9 s9 →
          tnn (i + 1) s9.heap ∧ (∀ b ∈ fp, H9 b = none) := fun {H9 s9} I9 => by
        refine ⟨T.keep _ _ _ st7 fun b hb o e => (I9.pin (b, o) (List.mem_append_right _ (List.mem_append_right _ (mem_pinsAt hb e)))).1, fun b hb => ?_⟩
        obtain ⟨o, e, d⟩ := T.obj _ _ st7 b hb
        exact (I9.pin (b, o) (List.mem_append_right _ (List.mem_append_right _ (mem_pinsAt hb e)))).2.1
      refine wpAny_mono (ht C (s.heap.objs.size :: fp) s3 H _ s8 σ8 H8 _ I8 q8) (fun ok s9 h9 => ?_) fun _ _ z => z
      obtain ⟨H9, I9, q9⟩ := h9
      cases ok with
      | false =>
        rw [if_neg (by decide)] at q9 ⊢
        obtain ⟨m', hm, w9⟩ := hNw _ _ q9
        obtain ⟨b1, b2⟩ := back I9
        exact ⟨m', hm, i + 1, ys, its, k, H9, I9.unpinned.weak hl8.symm hk8, b1, b2, rv5, w9⟩
      | true =>
        rw [if_pos rfl] at q9 ⊢
        refine wpAny_mono (he C (s.heap.objs.size :: fp) s3 H _ s9 σ8 H9 _ I9 q9) (fun yv s10 h10 => ?_) fun _ _ z => z
        obtain ⟨y, H10, I10, r10, hz10, n10⟩ := h10
        obtain ⟨m', hm, w10⟩ := hNw _ _ n10
        obtain ⟨b1, b2⟩ := back I10
        have pD := I10.pin (s.heap.objs.size, { cls := .type "list", data := .seq (List.toArray its) k }) (List.mem_append_right _ (List.mem_append_left _ (List.mem_append_right _ (List.mem_singleton.mpr rfl))))
        refine wpAny_list_append_plain (hsz := by rw [List.size_toArray, ← rv5.length]; exact hz10) ⟨k, pD.1⟩ fun h11 hl11 hs11 => ?_
        obtain ⟨k', e11⟩ := hl11
        have I10' : Inv (cxComp X scope cl (tn ++ cn) C (s.heap.objs.size :: fp) s3 H) (X.pn ++ pins) σ8 H10 s10 := I10.pins_of fun p hp => I10.pin p (List.mem_append_right _ (List.mem_append_left _ (List.mem_append_left _ hp)))
        have I11 := I10'.turned (t' := s10.toks) (h' := h11) (it := s.heap.objs.size) (fun b o hb e => hs11.extBut b o hb e) pD.2.1 pD.2.2.1 (.inl List.mem_cons_self) (fun x c e z => ?_) (fun p hp z => ?_)
        · refine ⟨m', hm, i + 1, ys ++ [y], its ++ [yv], k', H10, ?_, ?_, b2, rv5.append (.cons r10 .nil), w10⟩
          · refine (I11.pins_of fun p hp => ?_).weak hl8.symm hk8
            rcases List.mem_append.mp hp with hp | hp
            · exact I11.pin p (List.mem_append_right _ hp)
            · have e := List.mem_singleton.mp hp
              subst e
              refine ⟨?_, pD.2.1, pD.2.2.1, pD.2.2.2.1, fun v z => by cases z⟩
              show h11.get? s.heap.objs.size = _
              rw [e11]
              simp
          · refine T.keep _ _ _ b1 fun b hb o e => hs11.extBut b o (fun z => ?_) e
            have h1 := hfp b hb
            rw [z] at h1
            exact Nat.lt_irrefl _ h1
        · obtain ⟨v, q⟩ := I.cell x c (hcl x c e)
          exact absurd q.lt (by rw [z]; exact Nat.lt_irrefl _)
        · have hp : p ∈ X.pn ++ pins := (List.mem_append.mp hp).elim (fun z => List.mem_append_left _ z) id
          exact absurd (Heap.lt_size (I.pin p hp).1) (by rw [z]; exact Nat.lt_irrefl _)
  exact codeAny_compStart_list (loop _ rfl) (T.self X.A 0 _ _ _ st1 (loop _ rfl))
def tComp (wi : TI) (k : Nat) (caps : List Nat) (g : TG) (tt : TT) (te : TE) : TE := fun σ H Q => wi σ H fun J H1 => ∃ W : Nat → Nat → List V → Hp → Prop, (∃ m, W 0 m [] H1) ∧
  CompW J g tt te (List.replicate k none ++ capσ σ caps) W fun ys H' => ∀ D, H' D = none → Q (.ref D) (upd H' D (.lst ys))
def sComp (i : Nat) (wi : TI) (k : Nat) (caps : List Nat) (g : TG) (tt : TT) (te : TE) : TS := fun D σ H => wi σ H fun J H1 => ∃ W : Nat → Nat → List V → Hp → Prop, (∃ m, W 0 m [] H1) ∧
  CompW J g tt te (List.replicate k none ++ capσ σ caps) W fun ys H' => ∀ p, H' p = none → D.nx (σ.set i (some (.ref p))) (upd H' p (.lst ys))
theorem ps_comp {tg iter elt : Expr} {ifs : List Expr} {pos spos py : Pos} {y : Str} {i : Nat} {wi : TI} {g : TG} {tt : TT} {te : TE} (S : CompScope X scope tn cn caps) (hc : Calm X) (hN : X.N.Nodup) (hy : X.N[i]? = some y) (hl : X.env.scope.names.lookup y = some .local)
    (hi : PI X tg iter wi)
    (hg : ∀ cl C ex s₀ H₀, PG (cxComp X scope cl (tn ++ cn) C ex s₀ H₀) tg g) (ht : ∀ cl C ex s₀ H₀, PTs (cxComp X scope cl (tn ++ cn) C ex s₀ H₀) ifs tt) (he : ∀ cl C ex s₀ H₀, PE (cxComp X scope cl (tn ++ cn) C ex s₀ H₀) elt te)
    (hsw : swapsWith (.ListComp elt [⟨tg, iter, ifs, 0⟩] scope pos) (some (.Name y py)) spos.line X.env = pure true)
    (hs : ∀ x, foldedSetIterable iter X.env x = pure x := by intro _; rfl) : PS X (.Assign [.Name y py] (.ListComp elt [⟨tg, iter, ifs, 0⟩] scope pos) spos) (sComp i wi tn.length caps g tt te) := by
  intro pins s σ H D I h
  obtain ⟨cl, hcl0, hcl, hcl2⟩ := closureFor_some (scope := scope) (env := X.env) fun x hx hf => I.ok.has x.1 (S.caught x hx hf)
  rw [exec_Assign_Name_used _ _ _ _ hsw]
  refine wpAny_bind (wpAny_standAt (wpAny_bind ?_))
  show wpAny _ X.A (do let _ ← comprehension (.ListComp elt [⟨tg, iter, ifs, 0⟩] scope pos) scope X.env _ (newList []) false (eval iter X.env) (some (assign (.Name y py) X.env))) _ _ s
  refine wpAny_bind (wpAny_mono (wpAny_comprehension_free (use := some (assign (.Name y py) X.env)) (Q := fun _ s' => SP X pins D .next s') rfl hs hcl0 S.kind S.names
    (thn (hi pins s σ H _ I h) fun v s1 h1 => thn h1 fun itv s2 h2 => ?_)) (fun _ s' hq => wpAny_pure (wpAny_pure hq)) fun _ _ e => e)
  obtain ⟨it, fp, tnn, J, H2, e, I2, T, st2, f2, W, ⟨m0, w0⟩, turn⟩ := h2
  subst e
  refine comp_block (RR := fun acc C => compPost (model X.prog X.w) X.A X.xe (some (assign (.Name y py) X.env)) (fun _ s' => SP X pins D .next s') acc C) S hc hcl hcl2 (hg cl) (ht cl) (he cl) I2 T st2 f2 turn w0 ?_
  intro p C s' H' ys m hD f I' fC hn
  show wpAny _ X.A (assign (.Name y py) X.env (.ref p)) _ _ _
  refine wpAny_assign_Name (store_ok2 (v := .ref p) I' hN hy (.inl hl) rfl (fun s4 I4 ⟨a, hs4, ha⟩ => ?_) (.inr hl))
  have hCa : C ≠ a := by
    rcases ha with ha | ha
    · rw [ha]; exact fC.2.1
    · exact fun z => fC.2.2.2.2.1 y a ha z.symm
  refine ⟨m, hn.sameBut hs4 hCa, fun h' hs' => ?_⟩
  have I'' := I4.turned (t' := s4.toks) (h' := h') (it := C) (fun b o hb e => hs'.extBut b o hb e) fC.1 fC.2.1 fC.2.2.2.1 fC.2.2.2.2.1 fC.2.2.2.2.2
  exact ⟨_, _, I'', f p hD⟩
end
structure SrcIs (J : It) (H : Hp) (xs : List V) : Prop where
  go : ∀ i, i < xs.length → J.go i H
  yld : ∀ i x H', i < xs.length → J.yld i H x H' → H' = H ∧ xs[i]? = some x
  stop : J.stop xs.length H
theorem src_list {K : PySem.W.Frag} {H : Hp} {a : Addr} {xs : List V} (h : SqL K H a xs) : SrcIs (Itl K a) H xs :=
  ⟨fun i hi => ⟨xs, xs[i], h, by simp [hi]⟩, fun i x H' _ y => ⟨y.1, y.2 xs h⟩, ⟨xs, h, Nat.le_refl _⟩⟩
theorem cxK {CX : CXT} {P : Program} {w : World} {K : PySem.W.Frag} {mg : Str → Option Value} {base : Heap} {N : List Str} {qual : Str} {scope : Scope} {f : Addr} {cd : Value} {A : Around} {outer : List Env} {s : Shared} {H : Hp} {E : XK} : (cxOf CX P w K mg base N qual scope f cd A outer s H E).K = K := rfl
theorem cxA {CX : CXT} {P : Program} {w : World} {K : PySem.W.Frag} {mg : Str → Option Value} {base : Heap} {N : List Str} {qual : Str} {scope : Scope} {f : Addr} {cd : Value} {A : Around} {outer : List Env} {s : Shared} {H : Hp} {E : XK} : (cxOf CX P w K mg base N qual scope f cd A outer s H E).A = A.deeper (envOfC qual scope s.heap.objs.size f cd) := rfl
theorem cxKc {X : Cx} {scope : Scope} {cl : List (Str × Addr)} {N : List Str} {C : Addr} {ex : List Addr} {s₀ : Shared} {H₀ : Hp} : (cxComp X scope cl N C ex s₀ H₀).K = X.K := rfl
theorem cxAc {X : Cx} {scope : Scope} {cl : List (Str × Addr)} {N : List Str} {C : Addr} {ex : List Addr} {s₀ : Shared} {H₀ : Hp} : (cxComp X scope cl N C ex s₀ H₀).A = X.A := rfl
end L2
set_option Elab.async false
set_option linter.all false
set_option maxRecDepth 100000
namespace L2
open PySem PySem.Spec PyProof.Rows
def chr1 (c : Nat) : V := .str ⟨#[c]⟩
def Its (x : Str) : It := ⟨fun i _ => i < x.cps.size, fun i H v H' => H' = H ∧ ∃ c, x.cps[i]? = some c ∧ v = chr1 c, fun i _ => x.cps.size ≤ i⟩
def iStr (tl : TE) : TI := fun σ H R => tl σ H fun v H1 => ∃ x, v = .str x ∧ R (Its x) H1
section
variable {X : Cx}
def tSlS (te : TE) (tl th : TO) : TE := fun σ H Q => te σ H fun x H1 => tl σ H1 fun l H2 => th σ H2 fun u H3 => ∃ z, x = .str z ∧ z.length ≤ sizeLine ∧ Q (.str (Txt.slice z l u)) H3
theorem pe_sliceS {e : Expr} {lo hi : Option Expr} {te : TE} {tl th : TO} {p2 pos : Pos} (he : PE X e te) (hl : PO X lo tl) (hu : PO X hi th) : PE X (.Subscript e (.Slice lo hi none p2) pos) (tSlS te tl th) := by
  intro pins s σ H Q I h
  refine Subscript_ (thn (he pins s σ H _ I h) fun v s1 ⟨x, H1, I1, r1, q1⟩ => ?_)
  refine wpAny_Slice (thn (hl pins s1 σ H1 _ I1 q1) fun vl s2 ⟨l, H2, I2, pl, q2⟩ => thn (hu pins s2 σ H2 _ I2 q2) fun vu s3 ⟨u, H3, I3, pu, q3⟩ => ?_)
  rw [evalPart_none]
  refine wpAny_pure ?_
  obtain ⟨z, rfl, hz, q⟩ := q3
  obtain ⟨t, rfl⟩ := r1
  show wpAny (model X.prog X.w) X.A (subscriptTail e (.Slice lo hi none p2) (.str z t) (.ref s3.heap.objs.size)) (EP X pins σ Q) X.xe { s3 with heap := s3.heap.push { cls := .type "slice", data := .fields #[vl, vu, .none] } }
  have hk : KeptH fun h' => ∀ b o, s3.heap.get? b = some o → h'.get? b = some o := fun h ob p b o e => Heap.get?_push_of_some _ (p b o e)
  have fin : ∀ h' t' k, (∀ b o, s3.heap.get? b = some o → h'.get? b = some o) → EP X pins σ Q (.str (Txt.slice z l u) t') { s3 with heap := h', toks := k } := fun h' t' k kp => ⟨.str (Txt.slice z l u), H3, I3.kept kp, ⟨t', rfl⟩, q⟩
  have hI : ItemOn (model X.prog X.w) X.A X.xe (.str z t) (.ref s3.heap.objs.size) (EP X pins σ Q) { s3 with heap := s3.heap.push { cls := .type "slice", data := .fields #[vl, vu, .none] } } := by
    cases pl with
    | none =>
      cases pu with
      | none => exact SBH.sliceItem_nn hk (fun b o e => e) fin hz
      | int => exact SBH.sliceItem_ns hk (fun b o e => e) fin hz
    | int =>
      cases pu with
      | none => exact SBH.sliceItem_sn hk (fun b o e => e) fin hz
      | int => exact SBH.sliceItem_ss hk (fun b o e => e) fin hz
  obtain ⟨T, id, hlk, hT, hg⟩ := hI
  exact tail_any (ops := [.ref s3.heap.objs.size, .str z t]) hT hlk hg (by with_unfolding_all rfl)
def figs : Str := "0123456789"
def rIndex : V → List V → Hp → VK → Prop := fun x vs H Q => ∃ c, x = .str figs ∧ vs = [chr1 c] ∧ 48 ≤ c ∧ c ≤ 57 ∧ Q (.int ((c - 48 : Nat) : Int)) H
end
end L2
set_option Elab.async false
set_option linter.all false
set_option maxRecDepth 100000
namespace L2
open PySem PySem.Spec PyProof.Rows
mutual
inductive Den (K : PySem.W.Frag) (H : Hp) : V → PyData → Prop
  | non : Den K H .non .none
  | bl (b : Bool) : Den K H (.bl b) (.bool b)
  | int (i : Int) : Den K H (.int i) (.int i)
  | str (x : Str) : Den K H (.str x) (.str x)
  | lst {a : Addr} {xs : List V} {ds : List PyData} : SqL K H a xs → DenAll K H xs ds → Den K H (.ref a) (.list ds)
  | tup {a : Addr} {xs : List V} {ds : List PyData} : SqT K H a xs → DenAll K H xs ds → Den K H (.ref a) (.tuple ds)
inductive DenAll (K : PySem.W.Frag) (H : Hp) : List V → List PyData → Prop
  | nil : DenAll K H [] []
  | cons {x : V} {xs : List V} {d : PyData} {ds : List PyData} : Den K H x d → DenAll K H xs ds → DenAll K H (x :: xs) (d :: ds)
end
section
variable {X : Cx} {pins : List (Addr × Obj)} {σ : St} {H : Hp} {s : Shared}
mutual
theorem Den.reads (I : Inv X pins σ H s) : ∀ {x : V} {d : PyData} {u : Value}, Den X.K H x d → RelV x u → ∃ as, Reads s.heap u d as
  | _, _, _, .non, r => by cases r; exact ⟨_, Reads.none⟩
  | _, _, _, .bl b, r => by cases r; exact ⟨_, Reads.bool b⟩
  | _, _, _, .int i, r => by obtain ⟨t, rfl⟩ := r; exact ⟨_, Reads.int i t⟩
  | _, _, _, .str x, r => by obtain ⟨t, rfl⟩ := r; exact ⟨_, Reads.str x t⟩
  | _, _, _, .lst h hs, r => by
    cases r
    obtain ⟨its, rv, p, hz⟩ := I.list h
    obtain ⟨as, q⟩ := DenAll.reads I hs rv
    obtain ⟨o, ho, hc, n, hd⟩ := p.isList
    exact ⟨_, reads_list_at ho hc hd (by simpa using q)⟩
  | _, _, _, .tup h hs, r => by
    cases r
    obtain ⟨its, rv, p, hz⟩ := I.tuple h
    obtain ⟨as, q⟩ := DenAll.reads I hs rv
    obtain ⟨o, ho, hc, n, hd⟩ := (show s.heap.IsTuple _ _ from p)
    exact ⟨_, reads_tuple_at ho hc hd (by simpa using q)⟩
theorem DenAll.reads (I : Inv X pins σ H s) : ∀ {xs : List V} {ds : List PyData} {us : List Value}, DenAll X.K H xs ds → Vals xs us → ∃ as, ReadsAll s.heap us ds as
  | _, _, _, .nil, r => by cases r; exact ⟨_, ReadsAll.nil⟩
  | _, _, _, .cons h hs, r => by
    cases r with
    | cons r rr =>
      obtain ⟨as, q⟩ := Den.reads I h r
      obtain ⟨bs, p⟩ := DenAll.reads I hs rr
      exact ⟨_, ReadsAll.cons q p⟩
end
def rEqD (K : PySem.W.Frag) (neg : Bool) : R2 := fun x y H Q => ∃ d e, Den K H x d ∧ Den K H y e ∧ SeqAt.shaped d = true ∧ SeqAt.shaped e = true ∧ Q (.bl (if neg then !PyData.eqv d e else PyData.eqv d e)) H
theorem op_eqD (hu : X.A.units + 64 < cLine) : OpR X (compareOp .Eq) (rEqD X.K false) := by
  intro pins s σ H x y v u Q I rx ry h
  obtain ⟨d, e, hd, he, sd, se, q⟩ := h
  obtain ⟨as, ra⟩ := hd.reads I rx
  obtain ⟨bs, rb⟩ := he.reads I ry
  exact eq_dataH ra rb sd se hu (fin_bl I q rfl)
end
section
variable {X : Cx}
theorem call_isinst : CallR X (.builtin "isinstance") (fun xs H Q => ∃ x n t b, xs = [x, .ty n] ∧ TyOf X.K H x t ∧ PySem.W.kitOne X.K t (.type n) = some b ∧ Q (.bl b) H) := by
  intro pins s σ H xs us Q I r h
  obtain ⟨x, n, t, b, rfl, ty, e, q⟩ := h
  obtain ⟨u, v, rfl, ru, rv⟩ := vals2 r
  cases rv
  exact isinst_ok I ru ty e fun tk => ⟨.bl b, H, I.tok _, rfl, q⟩
end
end L2
set_option Elab.async false
set_option linter.all false
set_option maxRecDepth 100000
namespace L2
open PySem PySem.Spec PyProof.Rows
namespace RevF
end RevF
section
variable {X : Cx}
def tJoinRev (K : PySem.W.Frag) (ts te : TE) : TE := fun σ H Q => ts σ H fun x H1 => ∃ sep : Str, x = .str sep ∧ te σ H1 fun y H2 => ∃ (l : Addr) (ys : List Str), y = .ref l ∧ SqL K H2 l (ys.map V.str) ∧ JoinOk sep ys.reverse = true ∧ Q (.str (Txt.join sep ys.reverse)) H2
end
end L2
set_option Elab.async false
set_option linter.all false
set_option maxRecDepth 100000
namespace L2
open PySem PySem.Spec PyProof.Rows
section
variable {X : Cx}
end
end L2
set_option Elab.async false
set_option linter.all false
set_option maxRecDepth 100000
namespace L2
open PySem PySem.Spec PyProof.Rows
theorem vis_of {X : Cx} {sc : Scope} {x : Str} (h : Vis sc x) (e : X.env.scope = sc := by rfl) : Vis X.env.scope x := e ▸ h
theorem gl_of {X : Cx} {sc : Scope} {x : Str} (h : sc.names.lookup x = some .globalImplicit) (e : X.env.scope = sc := by rfl) : Gl X x := by
  show X.env.scope.names.lookup x = _
  rw [e]
  exact h
theorem loc_of {X : Cx} {sc : Scope} {x : Str} (h : sc.names.lookup x = some .local ∨ sc.names.lookup x = some .cell) (e : X.env.scope = sc := by rfl) : Loc X.env.scope x := e ▸ h
def plainE : Expr → Bool
  | .Starred _ _ => false
  | _ => true
def plainAll : List Expr → Bool
  | [] => true
  | e :: r => plainE e && plainAll r
theorem stp {e : Expr} {es : List Expr} {env : Env} (h : plainE e = true) : starEach (e :: es) env = (false, eval e env) :: starEach es env := by
  cases e <;> first | rfl | cases h
theorem st1 {e : Expr} {env : Env} (h : plainE e = true) : starEach [e] env = [(false, eval e env)] := by
  rw [stp h]; rfl
theorem st2 {e d : Expr} {env : Env} (h : plainE e = true) (h2 : plainE d = true) : starEach [e, d] env = [(false, eval e env), (false, eval d env)] := by
  rw [stp h, st1 h2]
theorem anp {env : Env} {pos : Pos} : ∀ {es : List Expr}, plainAll es = true → (backTo pos (starEach es env)).any (·.1) = false
  | [], _ => rfl
  | e :: r, h => by
    have h' : (plainE e && plainAll r) = true := h
    rw [Bool.and_eq_true] at h'
    rw [stp h'.1]
    show (false || (backTo pos (starEach r env)).any (·.1)) = false
    rw [anp h'.2]
    rfl
end L2
set_option Elab.async false
set_option linter.all false
set_option maxRecDepth 100000
namespace HT
open PySem PyProof.Rows
section
variable {prog : Program} {w : World} {A : Around} {E : Value → Shared → Prop} {s : Shared}
end
end HT
namespace L2
open PySem PySem.Spec PyProof.Rows
section
variable {X : Cx}
def rSlA (K : PySem.W.Frag) : V → Option Int → Option Int → Hp → VK → Prop := fun x lo hi H Q => ∃ a xs, x = .ref a ∧ SqT K H a xs ∧
  ((HT.sIx xs.length 0 lo = 0 ∧ HT.sIx xs.length xs.length hi = xs.length) → Q (.ref a) H) ∧
  (¬ (HT.sIx xs.length 0 lo = 0 ∧ HT.sIx xs.length xs.length hi = xs.length) → ∀ p, H p = none → Q (.ref p) (upd H p (.tup (cutV xs lo hi))))
end
end L2
set_option Elab.async false
set_option linter.all false
set_option maxRecDepth 100000
namespace L2
open PySem PySem.Spec PyProof.Rows
def ForJ (J : It) (g : TG) (tb : TS) (D : Ends) (σ : St) (H1 : Hp) : Prop := ∃ W : Nat → Nat → St → Hp → Prop, (∃ m, W 0 m σ H1) ∧ ∀ i m σ H, W i m σ H →
  (J.stop i H ∧ D.nx σ H) ∨ (J.go i H ∧ ∃ N : St → Hp → Prop, (∀ σ' H', N σ' H' → ∃ m', m' < m ∧ W (i + 1) m' σ' H') ∧ ∀ x H', J.yld i H x H' → g x σ H' fun σ2 H2 => tb { D with nx := N, ct := N, bk := D.nx } σ2 H2)
theorem tFor_eq {wi : TI} {g : TG} {tb : TS} {D : Ends} {σ : St} {H : Hp} : tFor wi g tb D σ H = wi σ H fun J H1 => ForJ J g tb D σ H1 := rfl
theorem same_new {H : Hp} {p : Addr} {o : HO} (h : H p = none) : Same H (upd H p o) := fun b u e => by rw [upd_ne (ne_of_none e h)]; exact e
mutual
theorem eqv_self : ∀ d : PyData, d.canLay0 = true → PyData.eqv d d = true
  | .none, _ => rfl
  | .bool b, _ => by simp [PyData.eqv]
  | .int i, _ => by simp [PyData.eqv]
  | .str x, _ => by simp [PyData.eqv]
  | .list xs, h => by
    have h' : PyData.canLayAll0 xs = true := h
    show PyData.eqvAll xs xs = true
    exact eqvAll_self xs h'
  | .tuple xs, h => by
    have h' : PyData.canLayAll0 xs = true := h
    show PyData.eqvAll xs xs = true
    exact eqvAll_self xs h'
  | .dict _, h => by cases h
theorem eqvAll_self : ∀ ds : List PyData, PyData.canLayAll0 ds = true → PyData.eqvAll ds ds = true
  | [], _ => rfl
  | d :: r, h => by
    have h' : (PyData.canLay0 d && PyData.canLayAll0 r) = true := h
    rw [Bool.and_eq_true] at h'
    show (PyData.eqv d d && PyData.eqvAll r r) = true
    rw [eqv_self d h'.1, eqvAll_self r h'.2]
    rfl
end
end L2
set_option Elab.async false
set_option linter.all false
set_option maxRecDepth 100000
namespace HT
open PySem PyProof.Rows
section
variable {prog : Program} {w : World} {A : Around} {E : Value → Shared → Prop} {s : Shared}
end
end HT
namespace L2
open PySem PySem.Spec PyProof.Rows
section
variable {X : Cx} {pos : Pos}
def gTupL (K : PySem.W.Frag) (n : Nat) (t : TGs) : TG := fun v σ H Q => ∃ a xs, v = .ref a ∧ SqL K H a xs ∧ xs.length = n ∧ t xs σ H Q
end
end L2
set_option Elab.async false
set_option linter.all false
set_option maxRecDepth 100000
namespace L2
open PySem PySem.Spec PyProof.Rows
theorem strsAre_of : ∀ {ys : List Str} {us : List Value}, Vals (ys.map V.str) us → StrsAre us ys := by
  intro ys
  induction ys with
  | nil => intro us r; rw [List.map_nil] at r; cases r; exact .nil
  | cons n ns ih =>
    intro us r
    rw [List.map_cons] at r
    cases r with
    | cons r1 r2 =>
      obtain ⟨t, e⟩ := r1
      subst e
      exact .cons n t (ih r2)
section
variable {X : Cx}
def rJoin (K : PySem.W.Frag) : V → List V → Hp → VK → Prop := fun x vs H Q => ∃ (sep : Str) (a : Addr) (ys : List Str), x = .str sep ∧ vs = [.ref a] ∧ SqL K H a (ys.map V.str) ∧ (ys.map (·.length)).sum + ys.length * sep.length ≤ 16777216 ∧ Q (.str (Txt.join sep ys)) H
theorem mt_join : MtR X "str.join" (rJoin X.K) := by
  intro pins s σ H x vs v us Q I rx rv h
  obtain ⟨sep, a, ys, rfl, rfl, hq, hok, q⟩ := h
  obtain ⟨t, rfl⟩ := rx
  obtain ⟨u, rfl, ru⟩ := rv.one
  cases ru
  obtain ⟨its, r, pl, hz⟩ := I.list hq
  exact join_list pl.isList (strsAre_of (by simpa using r)) hok fun t' k => ⟨.str (Txt.join sep ys), H, I.tok _, ⟨t', rfl⟩, q⟩
end
end L2
set_option Elab.async false
set_option linter.all false
set_option maxRecDepth 100000
namespace L2
open PySem PySem.Spec PyProof.Rows
section
variable {X : Cx} {K : PySem.W.Frag}
end
end L2
set_option Elab.async false
set_option linter.all false
set_option maxRecDepth 100000
namespace L2
open PySem PyProof.Rows PySem.Calls
def XAt (B : Heap) (e : Addr) (cls : Value) (dx : Option Addr) (fl : Value) (h : Heap) : Prop :=
  ∃ (vs : Array Value) (sl : Array (Option Value)) (T : Addr) (oT : Obj) (ts : Array Value), h.get? e = some ⟨cls, dx, .fields vs, sl⟩ ∧ vs[2]? = some Value.none ∧ vs[1]? = some (.ref T) ∧ B.get? T = none ∧ T ≠ e ∧ h.get? T = some oT ∧ oT.data = .fields ts ∧ ts[3]? = some fl
structure Fly (B : Heap) (l : List Env) (e : Addr) (cls : Value) (dx : Option Addr) (fl : Value) (h : Heap) : Prop where
  st : B.StaysIn h
  new : B.get? e = none
  fr : h.FunFrames B l
  at_ : XAt B e cls dx fl h
section
variable {M : Model} {A : Around} {E : Value → Shared → Prop} {s : Shared} {B : Heap} {env : Env} {outer l : List Env} {L e : Addr} {cls : Value} {dx : Option Addr} {Q : Unit → Shared → Prop}
theorem place_laid {vs : Array Value} {sl : Array (Option Value)} {head : Value} {had : Bool} (hfr : A.frames = some (env :: outer)) (hf : env.frame = some L) (st : B.StaysIn s.heap) (hn : B.get? e = none) (fr : s.heap.FunFrames B (env :: outer))
    (he : s.heap.get? e = some ⟨cls, dx, .fields vs, sl⟩) (h2 : vs[2]? = some Value.none) (k : ∀ h', Fly B (env :: outer) e cls dx (rawInt L) h' → s.heap.UpToSlots h' → Q () { s with heap := h' }) :
    wpAny M A (frameOf env >>= fun a => entryPlaceOf L had >>= fun pl => EntryCells.newEntry head a .none (rawInt L) .none pl >>= fun b => setField (.ref e) 1 b) Q E s := by
  have sz2 : 2 < vs.size := (Array.getElem?_eq_some_iff.mp h2).1
  have nof : e ∉ (env :: outer).filterMap (·.frame) := fun hm => by
    obtain ⟨_, o, ho, hnf⟩ := fr.mem hm
    rw [he] at ho
    cases ho
    exact hnf vs rfl
  refine wpAny_bind (wpAny_frameOf_fun hfr fr hf fun h₁ hs => ?_)
  refine wpAny_bind (wpAny_entryPlaceOf fun pl hpl => ?_)
  unfold EntryCells.newEntry newFields
  refine wpAny_bind (wpAny_newObj_type ?_ (hpl.sizeOk5 _ _ _ _ _))
  have e1 : h₁.get? e = some ⟨cls, dx, .fields vs, sl⟩ := (hs.2.1 e nof).trans he
  have st1 : B.StaysIn h₁ := fun b o q => (hs.2.1 b fun hm => by rw [(fr.mem hm).1] at q; cases q).trans (st b o q)
  refine wpAny_setField (Heap.get?_push_of_some _ e1) rfl (Nat.lt_trans (by decide) sz2) (k _ ?_ ?_)
  all_goals have ne : h₁.objs.size ≠ e := Nat.ne_of_gt (Heap.lt_size e1)
  · refine ⟨fun b o q => ?_, hn, fr.of_keeps fun b o q nf => ?_, ⟨vs.setIfInBounds 1 (.ref h₁.objs.size), sl, h₁.objs.size, _, _, ?_, ?_, ?_, st1.fresh, ne, (Heap.get?_update_other _ _ (Ne.symm ne)).trans (Heap.get?_push_size h₁ rfl), rfl, ?_⟩⟩
    · rw [Heap.get?_update_other _ _ (fun z => by rw [← z, hn] at q; cases q)]
      exact Heap.get?_push_of_some _ (st1 b o q)
    · obtain ⟨sl', hb⟩ := hs.2.2 b o q
      refine ⟨{ o with slots := sl' }, ?_, rfl⟩
      rw [Heap.get?_update_other _ _ (fun z => by rw [← z, he] at q; cases q; exact nf vs rfl)]
      exact Heap.get?_push_of_some _ hb
    · exact Heap.get?_update_self _ (Heap.get?_push_of_some _ e1) rfl
    · rw [Array.getElem?_setIfInBounds_ne (by decide)]
      exact h2
    · simp [Nat.lt_trans (show 1 < 2 by decide) sz2]
    · first | (simp; done) | (rcases hpl with rfl | ⟨_, _, _, _, _, _, _, rfl⟩ <;> simp)
  · intro b o q nf
    obtain ⟨sl', hb⟩ := hs.2.2 b o q
    refine ⟨sl', ?_⟩
    rw [Heap.get?_update_other _ _ (fun z => by rw [← z, he] at q; cases q; exact nf vs rfl)]
    exact Heap.get?_push_of_some _ hb
theorem note_first {vs : Array Value} {sl : Array (Option Value)} (hfr : A.frames = some (env :: outer)) (hf : env.frame = some L) (st : B.StaysIn s.heap) (hn : B.get? e = none) (fr : s.heap.FunFrames B (env :: outer))
    (he : s.heap.get? e = some ⟨cls, dx, .fields vs, sl⟩) (h2 : vs[2]? = some Value.none) (h1 : vs[1]? = some Value.none) (k : ∀ h', Fly B (env :: outer) e cls dx (rawInt L) h' → s.heap.UpToSlots h' → Q () { s with heap := h' }) :
    wpAny M A (noteFrame (.ref e) env) Q E s := by
  unfold noteFrame
  simp only [hf]
  refine wpAny_bind (wpAny_field he rfl h1 ?_)
  rw [if_neg (by decide)]
  exact place_laid hfr hf st hn fr he h2 k
theorem note_more (hfr : A.frames = some (env :: outer)) (hf : env.frame = some L) (f : Fly B (env :: outer) e cls dx .none s.heap) (k : ∀ h', Fly B (env :: outer) e cls dx (rawInt L) h' → s.heap.UpToSlots h' → Q () { s with heap := h' }) :
    wpAny M A (noteFrame (.ref e) env) Q E s := by
  obtain ⟨st, hn, fr, vs, sl, T, oT, ts, he, h2, h1, nT, ne, hT, dT, t3⟩ := f
  unfold noteFrame
  simp only [hf]
  refine wpAny_bind (wpAny_field he rfl h1 ?_)
  rw [if_pos (by simp)]
  refine wpAny_bind (wpAny_field hT dT t3 ?_)
  rw [if_neg (by simp [rawInt])]
  refine wpAny_bind (wpAny_setField hT dT (Array.getElem?_eq_some_iff.mp t3).1 ?_)
  have other : ∀ b o, b ≠ T → s.heap.get? b = some o → (s.heap.update T (Obj.mapFields (·.setIfInBounds 3 Value.none))).get? b = some o := fun b o hb z => by
    rw [Heap.get?_update_other _ _ (Ne.symm hb)]
    exact z
  have noT : ∀ b o, s.heap.get? b = some o → (∀ ws, o.data ≠ .fields ws) → b ≠ T := fun b o q nf z => by
    rw [z, hT] at q
    cases q
    exact nf ts dT
  refine place_laid (s := { s with heap := _ }) hfr hf (fun b o q => other b o (fun z => by rw [z, nT] at q; cases q) (st b o q)) hn (fr.of_keeps fun b o q nf => ⟨o, other b o (noT b o q nf) q, rfl⟩) (other e _ (Ne.symm ne) he) h2 fun h' f' u => k h' f' fun b o q nf => ?_
  exact u b o (other b o (noT b o q nf) q) nf
theorem land {fl : Value} (f : Fly B l e cls dx fl s.heap) (k : ∀ h', Fly B l e cls dx .none h' → s.heap.UpToSlots h' → Q () { s with heap := h' }) : wpAny M A (setFlight (.ref e) none) Q E s := by
  obtain ⟨st, hn, fr, vs, sl, T, oT, ts, he, h2, h1, nT, ne, hT, dT, t3⟩ := f
  unfold setFlight
  refine wpAny_bind (wpAny_field he rfl h1 ?_)
  rw [if_pos (by simp)]
  have sz := (Array.getElem?_eq_some_iff.mp t3).1
  have other : ∀ b o, b ≠ T → s.heap.get? b = some o → (s.heap.update T (Obj.mapFields (·.setIfInBounds 3 Value.none))).get? b = some o := fun b o hb z => by
    rw [Heap.get?_update_other _ _ (Ne.symm hb)]
    exact z
  have noT : ∀ b o, s.heap.get? b = some o → (∀ ws, o.data ≠ .fields ws) → b ≠ T := fun b o q nf z => by
    rw [z, hT] at q
    cases q
    exact nf ts dT
  refine wpAny_setField hT dT sz (k _ ⟨fun b o q => other b o (fun z => by rw [z, nT] at q; cases q) (st b o q), hn, fr.of_keeps fun b o q nf => ⟨o, other b o (noT b o q nf) q, rfl⟩, vs, sl, T, _, _, other e _ (Ne.symm ne) he, h2, h1, nT, ne, Heap.get?_update_self _ hT (Obj.isFreed_of_fields (Obj.data_mapFields dT _)), Obj.data_mapFields dT _, ?_⟩ fun b o q nf => ⟨o.slots, other b o (noT b o q nf) q⟩)
  simp [sz]
theorem Fly.tail {fl : Value} {h : Heap} (f : Fly B (env :: outer) e cls dx fl h) : Fly B outer e cls dx fl h := ⟨f.st, f.new, f.fr.2.2, f.at_⟩
theorem leave_first {vs : Array Value} {sl : Array (Option Value)} (hfr : A.frames = some (env :: outer)) (hf : env.frame = some L) (st : B.StaysIn s.heap) (hn : B.get? e = none) (fr : s.heap.FunFrames B (env :: outer))
    (he : s.heap.get? e = some ⟨cls, dx, .fields vs, sl⟩) (h2 : vs[2]? = some Value.none) (h1 : vs[1]? = some Value.none) (k : ∀ h', Fly B outer e cls dx .none h' → s.heap.UpToSlots h' → Q () { s with heap := h' }) :
    wpAny M A (leaving env (.ref e)) Q E s := by
  unfold leaving
  exact wpAny_bind (note_first hfr hf st hn fr he h2 h1 fun h' f u => land f fun h2 f2 u2 => k h2 f2.tail (u.trans u2))
theorem leave_more (hfr : A.frames = some (env :: outer)) (hf : env.frame = some L) (f : Fly B (env :: outer) e cls dx .none s.heap) (k : ∀ h', Fly B outer e cls dx .none h' → s.heap.UpToSlots h' → Q () { s with heap := h' }) :
    wpAny M A (leaving env (.ref e)) Q E s := by
  unfold leaving
  exact wpAny_bind (note_more hfr hf f fun h' f u => land f fun h2 f2 u2 => k h2 f2.tail (u.trans u2))
end
end L2
set_option Elab.async false
set_option linter.all false
set_option maxRecDepth 100000
namespace L2
open PySem PySem.Spec PyProof.Rows
theorem ObjOk.some {P : Program} {w : World} {H : Hp} {h : Heap} {a : Addr} {o : HO} (x : ObjOk P w H h a o) : ∃ u, h.get? a = some u := by
  cases o with
  | lst xs => obtain ⟨_, _, _, _, e⟩ := x; exact ⟨_, e⟩
  | tup xs => obtain ⟨_, _, _, o, e, _⟩ := x; exact ⟨_, e⟩
  | dK kvs => obtain ⟨_, _, _, _, o, _, _, e, _⟩ := x; exact ⟨_, e⟩
  | dT kvs => obtain ⟨_, _, _, _, o, _, _, e, _⟩ := x; exact ⟨_, e⟩
  | set S n => obtain ⟨o, _, _, _, e, _⟩ := x; exact ⟨_, e⟩
  | ins C dx fs => obtain ⟨_, _, _, e, _⟩ := x; exact ⟨_, e⟩
  | own y => exact x
  | xd fs => obtain ⟨_, ⟨_, _, _, e, _⟩, _⟩ := x; exact ⟨_, e⟩
  | rng lo hi => obtain ⟨_, _, _, e⟩ := x; exact ⟨_, e⟩
  | frz ob u => obtain ⟨e, _⟩ := x; exact ⟨_, e⟩
  | tbl ps => exact ⟨_, x⟩
  | met f y => exact ⟨_, x⟩
  | ext φ => obtain ⟨_, e, _⟩ := x; exact e
structure UnB (fs : List Addr) (H H' : Hp) (h B : Heap) : Prop where
  keep : ∀ b o, h.get? b = some o → H b = none → b ∉ fs → B.get? b = some o
  free : ∀ b o, h.get? b = some o → H b = none → H' b = none
  there : ∀ b o, h.get? b = some o → b ∉ fs → ∃ o', B.get? b = some o'
  tups : ∀ b xs, H b = some (.tup xs) → H' b = some (.tup xs)
  frzs : ∀ b o u, H b = some (.frz o u) → H' b = some (.frz o u)
  tbls : ∀ b ps, H b = some (.tbl ps) → ∃ more, H' b = some (.tbl (ps ++ more))
theorem UnB.un {fs : List Addr} {H H' : Hp} {h B h3 : Heap} (u : UnB fs H H' h B) (st : B.StaysIn h3) (sl : ∀ b o, b ∈ fs → h.get? b = some o → ∃ sl, h3.get? b = some { o with slots := sl }) : Un fs [] H H' h h3 where
  keep := fun b o e n hb _ => st _ _ (u.keep b o e n hb)
  slot := fun b o e n hb _ => sl b o hb e
  free := fun b o e n _ => u.free b o e n
  there := fun b o e _ => by
    by_cases hb : b ∈ fs
    · obtain ⟨_, z⟩ := sl b o hb e
      exact ⟨_, z⟩
    · obtain ⟨o', z⟩ := u.there b o e hb
      exact ⟨o', st _ _ z⟩
  tups := u.tups
  frzs := u.frzs
  tbls := u.tbls
def CXE (P : Program) (w : World) : CXT := fun outer H s E e s' =>
  ∃ (ea : Addr) (cls : Value) (dx : Option Addr) (H' : Hp) (B : Heap), e = .ref ea ∧ s'.os = s.os ∧ AllBare s'.gens ∧ Fly B outer ea cls dx .none s'.heap ∧ HOk P w H' B ∧ UnB (frs outer) H H' s.heap B ∧
    (∀ b o, b ∈ frs outer → s.heap.get? b = some o → ∃ sl, s'.heap.get? b = some { o with slots := sl }) ∧ E cls dx H'
abbrev WXT := St → XK
structure XC (X : Cx) (WX : WXT) : Prop where
  pass : ∀ (pins : List (Addr × Obj)) (σ : St) (H : Hp) (s : Shared) (e : Value) (s' : Shared), Inv X pins σ H s → CXE X.prog X.w X.stack H s (WX σ) e s' → X.xe e s'
structure XW (X : Cx) (WX : WXT) : Prop extends XC X WX where
  raise : ∀ (pins : List (Addr × Obj)) (σ : St) (H : Hp) (s : Shared) (h' : Heap) (e : Addr) (cls : Value) (args : List Value), Inv X pins σ H s → Heap.MadeExcOf s.heap h' e cls args → WX σ cls none H → X.xe (.ref e) { s with heap := h' }
def noW : WXT := fun _ _ _ _ => False
theorem xc_no {X : Cx} : XC X noW := ⟨fun _ _ _ _ _ _ _ ⟨_, _, _, _, _, _, _, _, _, _, _, _, z⟩ => z.elim⟩
section
variable {P : Program} {w : World} {K : PySem.W.Frag} {mg : Str → Option Value} {base : Heap} {N : List Str} {qual : Str} {scope : Scope} {f : Addr} {cd : Value} {A : Around} {outer : List Env} {s₀ : Shared} {H₀ : Hp} {E : XK}
theorem hok_hide {H : Hp} {h : Heap} {l : List Addr} (ok : HOk P w H h) (fr : ∀ b ∈ l, H b = none) : HOk P w H (PySem.W.hideAll h l) := fun a o e =>
  (ok a o e).stay (fun b u hb q => PySem.W.hideAll_get _ q fun z => by
    have n := fr b z
    rcases hb with rfl | hb
    · rw [n] at e; cases e
    · rw [n] at hb; cases hb) (fun _ q => q) fun _ _ q => q
theorem xw_fn : XW (cxOf (CXE P w) P w K mg base N qual scope f cd A outer s₀ H₀ E) (fun _ => E) where
  raise := fun pins σ H s h' e cls args I mk hE => by
    have hst : (cxOf (CXE P w) P w K mg base N qual scope f cd A outer s₀ H₀ E).stack = envOfC qual scope s₀.heap.objs.size f cd :: outer := rfl
    have stF := I.stkFree
    have stS := I.stack
    rw [hst] at stF stS
    obtain ⟨t, he, _, _⟩ := mk.there
    have hn : (PySem.W.hideAll s.heap (frs (envOfC qual scope s₀.heap.objs.size f cd :: outer))).get? e = none := by
      cases q : (PySem.W.hideAll s.heap (frs (envOfC qual scope s₀.heap.objs.size f cd :: outer))).get? e with
      | none => rfl
      | some o => have := PySem.W.of_hideAll _ q; rw [mk.new] at this; cases this
    have fr0 : s.heap.FunFrames (PySem.W.hideAll s.heap (frs (envOfC qual scope s₀.heap.objs.size f cd :: outer))) (envOfC qual scope s₀.heap.objs.size f cd :: outer) :=
      PySem.W.funFrames_hide stS fun env he a ha => List.mem_filterMap.mpr ⟨env, he, ha⟩
    show wpAny (model P w) (A.deeper (envOfC qual scope s₀.heap.objs.size f cd)) (leaving (envOfC qual scope s₀.heap.objs.size f cd) (.ref e)) _ _ _
    refine leave_first (s := { s with heap := h' }) (B := PySem.W.hideAll s.heap (frs (envOfC qual scope s₀.heap.objs.size f cd :: outer))) (env := envOfC qual scope s₀.heap.objs.size f cd) (outer := outer) (L := s₀.heap.objs.size) I.ok.frames rfl (fun b o q => mk.keeps b o (PySem.W.of_hideAll _ q)) hn (fr0.of_keeps fun b o q _ => ⟨o, mk.keeps b o q, rfl⟩) he rfl rfl fun h2 fl up => ?_
    have nst : ∀ b o, s₀.heap.get? b = some o → b ∉ frs outer → b ∉ frs (envOfC qual scope s₀.heap.objs.size f cd :: outer) := fun b o q n z => by
      rcases List.mem_cons.mp (show b ∈ s₀.heap.objs.size :: frs outer from z) with z | z
      · exact absurd (Heap.lt_size q) (by rw [z]; exact Nat.lt_irrefl _)
      · exact n z
    refine ⟨e, cls, none, H, _, rfl, I.os, I.bare, fl, hok_hide I.hok stF, ⟨fun b o q n nf => PySem.W.hideAll_get _ (I.base.keep b o q n nf (fun z => nomatch z)) (nst b o q nf), fun b o q n => I.base.free b o q n (fun z => nomatch z), fun b o q nf => ?_, I.base.tups, I.base.frzs, I.base.tbls⟩, fun b o hb q => ?_, hE⟩
    · obtain ⟨o', q'⟩ := I.base.there b o q (fun z => nomatch z)
      exact ⟨o', PySem.W.hideAll_get _ q' (nst b o q nf)⟩
    · obtain ⟨_, o', q', nf⟩ := I.ok.funs.mem hb
      obtain rfl : o = o' := Option.some.inj ((show s₀.heap.get? b = some o from q).symm.trans q')
      obtain ⟨sl, z⟩ := I.base.slot b o q (I.ok.frf b hb) hb (fun z => nomatch z)
      exact up b { o with slots := sl } (mk.keeps _ _ z) nf
  pass := fun pins σ H s e s' I z => by
    obtain ⟨ea, cls, dx, H', B, rfl, os, bare, fl, hok, u, slo, hE⟩ := z
    have fl : Fly B (envOfC qual scope s₀.heap.objs.size f cd :: outer) ea cls dx .none s'.heap := fl
    show wpAny (model P w) (A.deeper (envOfC qual scope s₀.heap.objs.size f cd)) (leaving (envOfC qual scope s₀.heap.objs.size f cd) (.ref ea)) _ _ _
    refine leave_more (L := s₀.heap.objs.size) I.ok.frames rfl fl fun h2 fl2 up => ?_
    have nst : ∀ b o, s₀.heap.get? b = some o → b ∉ frs outer → b ∉ frs (envOfC qual scope s₀.heap.objs.size f cd :: outer) := fun b o q n z => by
      rcases List.mem_cons.mp (show b ∈ s₀.heap.objs.size :: frs outer from z) with z | z
      · exact absurd (Heap.lt_size q) (by rw [z]; exact Nat.lt_irrefl _)
      · exact n z
    refine ⟨ea, cls, dx, H', B, rfl, os.trans I.os, bare, fl2, hok, ⟨fun b o q n nf => u.keep b o (I.base.keep b o q n nf (fun z => nomatch z)) (I.base.free b o q n (fun z => nomatch z)) (nst b o q nf), fun b o q n => ?_, fun b o q nf => ?_, fun b xs q => u.tups b xs (I.base.tups b xs q), fun b o x q => u.frzs b o x (I.base.frzs b o x q), fun b ps q => ?_⟩, fun b o hb q => ?_, hE⟩
    · obtain ⟨o', q'⟩ := I.base.there b o q (fun z => nomatch z)
      exact u.free b o' q' (I.base.free b o q n (fun z => nomatch z))
    · obtain ⟨o', q'⟩ := I.base.there b o q (fun z => nomatch z)
      exact u.there b o' q' (nst b o q nf)
    · obtain ⟨m1, e1⟩ := I.base.tbls b ps q
      obtain ⟨m2, e2⟩ := u.tbls b _ e1
      exact ⟨m1 ++ m2, by rw [e2, Array.append_assoc]⟩
    · obtain ⟨_, o', q', nf⟩ := I.ok.funs.mem hb
      obtain rfl : o = o' := Option.some.inj ((show s₀.heap.get? b = some o from q).symm.trans q')
      obtain ⟨sl, z⟩ := I.base.slot b o q (I.ok.frf b hb) hb (fun z => nomatch z)
      obtain ⟨sl2, z2⟩ := slo b _ (show b ∈ s₀.heap.objs.size :: frs outer from List.mem_cons_of_mem _ hb) z
      exact up b { o with slots := sl2 } z2 nf
end
def tCallX (sp : Sp) (dvs : List V) (WX : WXT) (t : TA) : TE := fun σ H Q => t σ H fun vs H1 => sp (vs ++ dvs) H1 Q (WX σ)
def tMethX (C : Addr) (m : Str) (sp : Sp) (dvs : List V) (WX : WXT) (ta : TE) (t : TA) : TE := fun σ H Q => ta σ H fun x H1 => ∃ a dx fs, x = .ref a ∧ H1 a = some (.ins C dx fs) ∧ fs.lookup m = none ∧ t σ H1 fun vs H2 => sp (x :: (vs ++ dvs)) H2 Q (WX σ)
def tMakeX (C : Addr) (sp : Sp) (dvs : List V) (WX : WXT) (t : TA) : TE := fun σ H Q => t σ H fun vs H1 => ∀ x dx, H1 x = none → H1 dx = none → dx ≠ x →
  sp (.ref x :: (vs ++ dvs)) (upd (upd H1 dx (.own x)) x (.ins C dx [])) (fun v H2 => v = .non ∧ Q (.ref x) H2) (WX σ)
section
variable {X : Cx} {k : Nat} {f C : Addr} {fd : FuncData} {ps : List Str} {sp : Sp} {dvs : List V} {ds : List Value} {WX : WXT} {x m : Str} {p pos apos : Pos} {e o : Expr} {es : List Expr} {ta : TE} {t : TA}
theorem run_fnX {pins : List (Addr × Obj)} {σ : St} {H : Hp} {s : Shared} {Q : VK} {us : List Value} {vs : List V} (F : FnOk X.prog X.w X.K X.mg X.base (CXE X.prog X.w) k f fd ps sp) (hr : Room k X.A) (hb : Binds X.K fd ps ds) (hd : Vals dvs ds) (hx : XC X WX)
    (I : Inv X pins σ H s) (r : Vals vs us) (h : sp (vs ++ dvs) H Q (WX σ)) : wpAny (model X.prog X.w) X.A (call (.ref f) us) (EP X pins σ Q) X.xe s := by
  have r2 : Vals (vs ++ dvs) (us ++ ds) := r.append hd
  have hl : (us ++ ds).length = ps.length := by rw [← r2.length]; exact F.len _ _ _ _ h
  refine wpAny_call (codeAny_mono (F.run X.A X.stack s H ⟨us, []⟩ (us ++ ds) (vs ++ dvs) Q (WX σ) hr I.env0 (hb s us I.kIn hl) r2 h) fun r s' hq => ?_)
  cases r with
  | error e => exact hx.pass pins σ H s e s' I hq
  | ok fl => cases fl with
    | ret u => exact I.after hq
    | next => exact hq.elim
    | brk => exact hq.elim
    | cont => exact hq.elim
theorem pe_callX (F : FnOk X.prog X.w X.K X.mg X.base (CXE X.prog X.w) k f fd ps sp) (hr : Room k X.A) (hg : Gl X x) (hm : X.mg x = some (.ref f)) (hk : PySem.W.keepIn X.K (.ref f) = true) (hb : Binds X.K fd ps ds) (hd : Vals dvs ds) (hx : XC X WX)
    (ha : PA X (e :: es) t) (hdb : (x == ("__debug__" : Str)) = false := by decide) (he : starEach (e :: es) X.env = (false, eval e X.env) :: starEach es X.env := by rfl) (hpl : (backTo pos (starEach es X.env)).any (·.1) = false := by rfl) :
    PE X (.Call (.Name x p) (e :: es) [] pos) (tCallX sp dvs WX t) := by
  intro pins s σ H Q I h
  refine wpAny_Call_Name_kw (ld_glob I hg hm ?_ hdb)
  exact PySem.W.callWith_K (h₀ := X.base) I.ok.mod.kin hk (thn (ha pos pins s σ H _ I h) fun us s1 ⟨vs, H1, I1, r, q⟩ => ⟨I1.kIn, run_fnX F hr hb hd hx I1 r q⟩) he hpl
structure ErrC (K : PySem.W.Frag) (C : Addr) : Prop where
  ex : PySem.W.excIn K C [.type "ValueError", .type "Exception", .type "BaseException", .type "object"] "ValueError.__new__" = true
def tRaise (WX : WXT) (C : Addr) (t : TA) : TS := fun D σ H => t σ H fun vs H1 => vs.length ≤ sizeLine ∧ WX σ (.ref C) none H1
theorem ps_raise {np cpos : Pos} (hx : XW X WX) (hc : X.calm = true) (hg : Gl X x) (hm : X.mg x = some (.ref C)) (er : ErrC X.K C) (ha : PA X (e :: es) t)
    (hdb : (x == ("__debug__" : Str)) = false := by decide) (he : starEach (e :: es) X.env = (false, eval e X.env) :: starEach es X.env := by rfl) (hpl : (backTo cpos (starEach es X.env)).any (·.1) = false := by rfl) :
    PS X (.Raise (some (.Call (.Name x np) (e :: es) [] cpos)) none pos) (tRaise WX C t) := by
  intro pins s σ H D I h
  have q := er.ex
  unfold PySem.W.excIn at q
  split at q
  · rename_i dd cd sl ho
    split at q
    · rename_i C' bm k0 k1 k2 k3 n k5 hm' hs
      simp only [Bool.and_eq_true, beq_iff_eq, Bool.not_eq_true'] at q
      obtain ⟨⟨⟨⟨⟨rfl, rfl⟩, hdel⟩, ht⟩, hok⟩, hni⟩ := q
      obtain ⟨nm, bs, mro, ns, qn, hd, sn, sub, ab, col, del⟩ := cd
      dsimp only at hm' hdel hok hni
      subst hm' hdel
      obtain rfl : sl = #[k0, k1, k2, k3, some (.builtin "ValueError.__new__"), k5] := by
        obtain ⟨l⟩ := sl
        simp only at hs
        rw [hs]
      have T := PySem.W.tail_of_in I.ok.mod.kin ht
      refine wpAny_Raise_call_subT (C := C') (nm := nm) (q := qn) (N := ns) (bs := bs) (bm := bm) (hdct := hd) (sn := sn) (sub := sub) (ab := ab) (col := col) (dd := dd) (k0 := k0) (k1 := k1) (k2 := k2) (k3 := k3) (k5 := k5) PySem.F.excBase_ValueError (mN := X.base.nsMap ns)
        (T.hasType PySem.F.excBase_ValueError.hasBase) (I.ok.hd hc) (by rw [he]; show (false || (backTo cpos (starEach es X.env)).any (·.1)) = false; rw [hpl]; rfl) (PySem.W.nsMap_none_of_in I.ok.mod.kin hok hni) (ld_glob I hg hm ⟨rfl, ?_⟩ hdb)
      rw [he]
      have hp := ha cpos pins s σ H _ I h
      rw [he] at hp
      refine Calls.evalArgs_plain (wpAny_mono hp (fun us s1 z => ?_) fun _ _ z => z)
      obtain ⟨vs, H1, I1, rv, hz, hw⟩ := z
      refine ⟨rfl, by rw [← rv.length]; exact hz, I1.kIn _ _ ho, (Heap.Ns.of_isNs (PySem.W.isNs_of_in I.ok.mod.kin hok)).keeps I1.bk, T.keeps I1.bk, fun h' ea mk => hx.raise pins σ H1 s1 h' ea _ _ I1 mk hw⟩
    · cases q
  · cases q
end
end L2
set_option Elab.async false
set_option linter.all false
set_option maxRecDepth 100000
namespace L2
open PySem PySem.Spec PyProof.Rows
structure MkO (C : Addr) (dx : Option Addr) (ob : Obj) : Prop where
  ex : ∃ (vs : Array Value) (sl : Array (Option Value)), ob = ⟨.ref C, dx, .fields vs, sl⟩ ∧ vs[2]? = some Value.none
def cxTry (X : Cx) (pins : List (Addr × Obj)) (E : Value → Shared → Prop) : Cx := { X with pn := X.pn ++ pins, xe := E }
def cxSuite (X : Cx) (pins : List (Addr × Obj)) (ea : Addr) (ob : Obj) : Cx := { X with A := X.A.mark (some (.ref ea)), calm := false, pn := X.pn ++ pins ++ [(ea, ob)], xe := fun _ _ => False }
section
variable {X : Cx} {pins pins' : List (Addr × Obj)} {σ : St} {H : Hp} {s : Shared} {E : Value → Shared → Prop} {ea : Addr} {ob : Obj}
theorem ok_try (ok : X.Ok) : (cxTry X pins E).Ok := ⟨ok.mod, ok.kind, ok.glob, ok.blt, ok.above, ok.inj, ok.has, ok.cab, ok.hd, ok.frames, ok.stk, ok.exf, ok.bs, ok.bsz, ok.noex, ok.exfs, ok.funs, ok.frf⟩
theorem ok_suite (ok : X.Ok) : (cxSuite X pins ea ob).Ok := ⟨ok.mod, ok.kind, ok.glob, ok.blt, ok.above, ok.inj, ok.has, ok.cab, (fun z => nomatch z), ok.frames, ok.stk, ok.exf, ok.bs, ok.bsz, ok.noex, ok.exfs, ok.funs, ok.frf⟩
theorem inv_try (I : Inv X pins σ H s) : Inv (cxTry X pins E) [] σ H s := ⟨ok_try I.ok, I.os, I.bare, I.base, I.loc, I.cell, I.free, I.freeC, fun p hp => I.pin p (by simpa [cxTry] using hp), I.hok, I.len⟩
theorem inv_untry (ok : X.Ok) (I : Inv (cxTry X pins E) pins' σ H s) : Inv X pins σ H s := ⟨ok, I.os, I.bare, I.base, I.loc, I.cell, I.free, I.freeC, fun p hp => I.pin p (List.mem_append_left _ hp), I.hok, I.len⟩
theorem inv_suite (I : Inv X pins σ H s) (he : s.heap.get? ea = some ob) (hn : H ea = none) (hl : ea ≠ X.env.locals) (hf : ea ∉ X.fs) (hc : ∀ v, ob.data ≠ .cell v) : Inv (cxSuite X pins ea ob) [] σ H s :=
  ⟨ok_suite I.ok, I.os, I.bare, I.base, I.loc, I.cell, I.free, I.freeC, fun p hp => by
    have hp : p ∈ X.pn ++ pins ++ [(ea, ob)] := by simpa [cxSuite] using hp
    rcases List.mem_append.mp hp with z | z
    · exact I.pin p z
    · cases List.mem_singleton.mp z
      exact ⟨he, hn, hl, hf, hc⟩, I.hok, I.len⟩
theorem inv_unsuite (ok : X.Ok) (I : Inv (cxSuite X pins ea ob) pins' σ H s) : Inv X pins σ H s := ⟨ok, I.os, I.bare, I.base, I.loc, I.cell, I.free, I.freeC, fun p hp => I.pin p (List.mem_append_left _ (List.mem_append_left _ hp)), I.hok, I.len⟩
theorem SP.untry {D : Ends} {f : Flow} (ok : X.Ok) (h : SP (cxTry X pins E) [] D f s) : SP X pins D f s := by
  cases f with
  | next => obtain ⟨σ', H', I, q⟩ := h; exact ⟨σ', H', inv_untry ok I, q⟩
  | brk => obtain ⟨σ', H', I, q⟩ := h; exact ⟨σ', H', inv_untry ok I, q⟩
  | cont => obtain ⟨σ', H', I, q⟩ := h; exact ⟨σ', H', inv_untry ok I, q⟩
  | ret u => obtain ⟨v, σ', H', I, r, q⟩ := h; exact ⟨v, σ', H', inv_untry ok I, r, q⟩
theorem Inv.forget {h' : Heap} {m' : Str → Option Value} {t' : Nat} (I : Inv X pins σ H s) (hn : h'.Ns X.env.locals m') (sb : Heap.SameBut X.env.locals s.heap h') : Inv X pins (List.replicate X.N.length none) H { s with heap := h', toks := t' } := by
  have nl : ∀ b o, X.s₀.heap.get? b = some o → b ≠ X.env.locals := fun b o e => Nat.ne_of_lt (Nat.lt_of_lt_of_le (Heap.lt_size e) I.ok.above)
  have up : ∀ b o, b ≠ X.env.locals → s.heap.get? b = some o → h'.get? b = some o := fun b o hb e => (sb.2 b hb).trans e
  refine ⟨I.ok, I.os, I.bare, ⟨fun b o e n hb hx => up b o (nl b o e) (I.base.keep b o e n hb hx), fun b o e n hb hx => ?_, I.base.free, fun b o e hx => ?_, I.base.tups, I.base.frzs, I.base.tbls⟩, ⟨m', hn, fun i x v _ h2 _ => ?_⟩, fun x c e => ?_, I.free, I.freeC, fun p hp => ?_, fun a o e => ?_, by simp⟩
  · obtain ⟨sl, z⟩ := I.base.slot b o e n hb hx
    exact ⟨sl, up b _ (nl b o e) z⟩
  · obtain ⟨o', z⟩ := I.base.there b o e hx
    exact ⟨o', up b _ (nl b o e) z⟩
  · rw [List.getElem?_replicate] at h2
    split at h2 <;> cases h2
  · obtain ⟨v, o, z, d⟩ := I.cell x c e
    exact ⟨v, o, up c o (I.cne x c e) z, d⟩
  · obtain ⟨z1, z2, z3, z4⟩ := I.pin p hp
    exact ⟨up _ _ z3 z1, z2, z3, z4⟩
  · have ne : ∀ b u, H b = some u → b ≠ X.env.locals := fun b u q z => by rw [z, I.free] at q; cases q
    exact (I.hok a o e).stay (fun b u hb q => up b u (by
      rcases hb with rfl | hb
      · exact ne _ _ e
      · exact ne _ _ hb) q) (fun _ q => q) fun _ _ q => q
def onlyRet (D : Ends) : Ends := { nx := fun _ _ => False, rt := D.rt }
end
def tTryAs (K : PySem.W.Frag) (C : Addr) (i : Nat) (tb : WXT → TS) (th : Addr → Addr → Option Addr → TS) : TS := fun D σ H =>
  ∃ WE : WXT, tb WE D σ H ∧ ∀ σ' cls dx H', WE σ' cls dx H' → ∃ C', cls = .ref C' ∧ PySem.W.exmOne K (.ref C') (.ref C) = some true ∧ ∀ ea, H' ea = none → th ea C' dx (onlyRet D) (σ'.set i (some (.ref ea))) H'
section
variable {X : Cx} {x n : Str} {C : Addr} {body : List Stmt} {b₀ : Stmt} {suite : List Stmt} {np pos hpos : Pos} {tb : WXT → TS} {th : Addr → Addr → Option Addr → TS}
theorem looks_type {M : Model} {h : Heap} {a : Addr} {o : Obj} (e : h.get? a = some o) : PySem.W.Looks M h (typeOf (.ref a)) o.cls := (PySem.W.Looks.ld e).andThen .now
def Behind (X : Cx) (nm : Option Str) (hpos : Pos) (Q : Flow → Shared → Prop) (r : Result) (s : Shared) : Prop := match r with
  | .ok f => (match nm with
    | none => Q f s
    | some n => wpAny (model X.prog X.w) X.A (do bindName X.env n .none; unbindBehindTheSuite X.env n hpos) (fun _ s₃ => Q f s₃) X.xe s)
  | .error x => cameBackBy (model X.prog X.w) X.A X.env X.xe x s
theorem try_seen {pins pins' : List (Addr × Obj)} {σ : St} {H : Hp} {s s' : Shared} {e : Value} {WE : XK} {nm : Option Str} {Q : Flow → Shared → Prop} {EE : Value → Shared → Prop} {L : Addr} {outer : List Env} (hst : X.stack = X.env :: outer) (hf : X.env.frame = some L) (hg : Gl X x) (hm : X.mg x = some (.ref C)) (hdb : (x == ("__debug__" : Str)) = false) (ok : X.Ok)
    (I : Inv (cxTry X pins EE) pins' σ H s) (z : CXE X.prog X.w X.stack H s WE e s') (hW : ∀ cls dx H', WE cls dx H' → ∃ C', cls = .ref C' ∧ PySem.W.exmOne X.K (.ref C') (.ref C) = some true)
    (k : ∀ (ea C' : Addr) (dx : Option Addr) (H' : Hp) (s5 : Shared), e = .ref ea → WE (.ref C') dx H' → H' ea = none → (∀ (M : Model) (A : Around) (E : Value → Shared → Prop) (Q : Unit → Shared → Prop), (∀ ob s6, MkO C' dx ob → Inv (cxSuite X pins ea ob) [] σ H' s6 → Q () s6) → wpAny M A (setFlight (.ref ea) none) Q E s5) →
      codeAny (model X.prog X.w) (X.A.mark (some (.ref ea))) (.handlers (.ref ea) [.ExceptHandler none nm (b₀ :: suite) hpos] X.env) (Behind X nm hpos Q) s5) :
    wpAny (model X.prog X.w) X.A (noteFrame e X.env) (fun _ s₂ => wpAny (model X.prog X.w) X.A (setFlight e none) (fun _ s₃ => wpAny (model X.prog X.w) X.A (handleBy e X.env [.ExceptHandler (some (.Name x np)) nm (b₀ :: suite) hpos]) Q X.xe s₃) X.xe s₂) X.xe s' := by
  obtain ⟨ea, cls, dx, H', B, rfl, os, bare, fl, hok, u, slo, hE⟩ := z
  obtain ⟨C', rfl, hmt⟩ := hW cls dx H' hE
  have fl : Fly B (X.env :: outer) ea (.ref C') dx .none s'.heap := by rw [← hst]; exact fl
  have J : ∀ {h3 : Heap} {t3 : Nat}, B.StaysIn h3 → s'.heap.UpToSlots h3 → Inv X pins σ H' { s' with heap := h3, toks := t3 } := fun {h3 t3} st up => by
    refine inv_untry ok (Inv.call' I (s' := { s' with heap := h3, toks := t3 }) os (u.un st fun b o hb q => ?_) (hok.kept st) bare (fun b z => nomatch z))
    obtain ⟨_, o', q', nf⟩ := I.stack.mem hb
    rw [q] at q'
    cases q'
    obtain ⟨sl, q2⟩ := slo b o hb q
    exact up b { o with slots := sl } q2 nf
  have hn : H' ea = none := by
    cases q : H' ea with
    | none => rfl
    | some o => obtain ⟨_, z⟩ := (hok ea o q).some; rw [fl.new] at z; cases z
  refine note_more (by rw [ok.frames, hst]) hf fl fun h4 fl4 up4 => ?_
  refine land (s := { s' with heap := h4 }) fl4 fun h5 fl5 up5 => ?_
  have fin : ∀ {h6 : Heap} {t6 : Nat}, Fly B (X.env :: outer) ea (.ref C') dx .none h6 → h5.UpToSlots h6 → ∃ ob, MkO C' dx ob ∧ Inv (cxSuite X pins ea ob) [] σ H' { s' with heap := h6, toks := t6 } := fun {h6 t6} fl6 up6 => by
    have I6 := J (t3 := t6) fl6.st ((up4.trans up5).trans up6)
    obtain ⟨vs, sl, T, oT, ts, he, h2, h1, _⟩ := fl6.at_
    refine ⟨_, ⟨vs, sl, rfl, h2⟩, inv_suite I6 he hn (fun z => ?_) (fun z => ?_) (fun v z => by cases z)⟩
    · obtain ⟨m, ⟨o, es, ep, ho, hd, _⟩, _⟩ := I6.loc
      rw [← z] at ho
      have ho := (show h6.get? ea = some o from ho)
      rw [he] at ho
      cases ho
      cases hd
    · obtain ⟨_, o, ho, nf⟩ := I6.funs.mem z
      have ho := (show h6.get? ea = some o from ho)
      rw [he] at ho
      cases ho
      exact nf _ rfl
  refine wpAny_handleBy_cons (codeAny_handlers_test ?_) (by intro q; cases q)
  obtain ⟨ob5, _, I5⟩ := fin (t6 := s'.toks) fl5 (Heap.UpToSlots.refl _)
  refine ld_glob (X := cxSuite X pins ea ob5) I5 hg hm ?_ hdb
  obtain ⟨vs, sl, T, oT, ts, he, _⟩ := id fl5.at_
  refine (PySem.W.exm_one I5.kIn (looks_type he) hmt).here ?_
  refine k ea C' dx H' _ rfl hE hn fun M A E Q q => land (s := { s' with heap := h5 }) fl5 fun h6 fl6 up6 => ?_
  obtain ⟨ob6, m6, I6⟩ := fin (t6 := s'.toks) fl6 up6
  exact q ob6 _ m6 I6
theorem ps_tryAs {L : Addr} {outer : List Env} {i : Nat} (hN : X.N.Nodup) (hi : X.N[i]? = some n) (hl : X.env.scope.names.lookup n = some .local) (hst : X.stack = X.env :: outer) (hf : X.env.frame = some L) (hg : Gl X x) (hm : X.mg x = some (.ref C)) (hdb : (x == ("__debug__" : Str)) = false)
    (hb : ∀ pins EE WE, XC (cxTry X pins EE) WE → PSs (cxTry X pins EE) body (tb WE)) (hh : ∀ pins ea C' dx ob, MkO C' dx ob → PSs (cxSuite X pins ea ob) (b₀ :: suite) (th ea C' dx)) :
    PS X (.Try body [.ExceptHandler (some (.Name x np)) (some n) (b₀ :: suite) hpos] [] [] pos) (tTryAs X.K C i tb th) := by
  intro pins s σ H D I h
  obtain ⟨WE, h1, h2⟩ := h
  refine wpAny_Try_except (thn (hb pins _ WE ⟨fun pins' σ' H' s1 e s2 I' z => ?_⟩ [] s σ H D (inv_try I) h1) fun f s1 q => ?_)
  · refine try_seen hst hf hg hm hdb I.ok I' z (fun cls dx H' w => let ⟨C', e1, e2, _⟩ := h2 σ' cls dx H' w; ⟨C', e1, e2⟩) fun ea C' dx H2 s5 e5 w hn land => ?_
    obtain ⟨C2, e1, e2, h3⟩ := h2 σ' _ dx H2 w
    cases e1
    refine codeAny_handlers_suite_as (wpAny_noRaise (land _ _ _ _ fun ob s6 mk I6 => wpAny_noRaise (store_ok (X := cxSuite X pins ea ob) (v := .ref ea) I6 hN hi (.inl hl) rfl (fun s7 I7 => ?_) (.inr hl))))
    refine wpAny_mono (hh pins ea C' dx ob mk [] s7 _ H2 (onlyRet D) I7 (h3 ea hn)) (fun f s8 q8 => ?_) fun _ _ z => z.elim
    cases f with
    | next => obtain ⟨_, _, _, z⟩ := q8; exact z.elim
    | brk => obtain ⟨_, _, _, z⟩ := q8; exact z.elim
    | cont => obtain ⟨_, _, _, z⟩ := q8; exact z.elim
    | ret v =>
      obtain ⟨y, σ9, H9, I9, r9, q9⟩ := q8
      have I9 := inv_unsuite I.ok I9
      obtain ⟨m, hn9, _⟩ := id I9.loc
      refine wpAny_nameGoes (m := m) hl hn9 (by rw [I9.ok.kind]; rfl) fun h' m' hn' sb => ?_
      refine ⟨y, List.replicate X.N.length none, H9, ?_, r9, q9⟩
      exact I9.forget hn' sb
  · have q := SP.untry I.ok q
    cases f with
    | next => exact wpAny_execs_nil q
    | brk => exact q
    | cont => exact q
    | ret u => exact q
end
end L2
set_option Elab.async false
set_option linter.all false
set_option maxRecDepth 100000
namespace L2
open PySem PySem.Spec PyProof.Rows
structure RoomM (k : Nat) (A : Around) : Prop where
  dp : A.depth + 3 * k + 5 < recursionLimit
  un : A.units + 16 * k + 200 < cLine
theorem Room.m {k : Nat} {A : Around} {e : Option Value} (r : Room k A) : RoomM k (A.mark e) := ⟨r.dp, r.un⟩
theorem RoomM.mono {j k : Nat} {A : Around} (r : RoomM k A) (h : j ≤ k) : RoomM j A := ⟨by have := r.dp; omega, by have := r.un; omega⟩
theorem RoomM.deeper {k : Nat} {A : Around} (r : RoomM (k + 1) A) (env : Env) : RoomM k (A.deeper env) :=
  ⟨by have := r.dp; show A.depth + 1 + 3 * k + 5 < _; omega, by have := r.un; show A.units + 3 + 16 * k + 200 < _; omega⟩
theorem RoomM.depth {k : Nat} {A : Around} (r : RoomM k A) : A.depth < recursionLimit := by have := r.dp; omega
theorem RoomM.units {k : Nat} {A : Around} (r : RoomM k A) : A.units + 64 < cLine := by have := r.un; omega
theorem RoomM.units0 {k : Nat} {A : Around} (r : RoomM k A) : A.units < cLine := by have := r.un; omega
structure FnOkM (P : Program) (w : World) (K : PySem.W.Frag) (mg : Str → Option Value) (base : Heap) (ea : Addr) (ob : Obj) (k : Nat) (f : Addr) (fd : FuncData) (ps : List Str) (sp : Sp) : Prop where
  len : ∀ vs H Q E, sp vs H Q E → vs.length = ps.length
  run : ∀ (A : Around) (outer : List Env) (s : Shared) (H : Hp) (args : Args) (us : List Value) (vs : List V) (Q : VK), RoomM k A → A.handled = some (.ref ea) → s.heap.get? ea = some ob → H ea = none → ea ∉ frs outer → Env0 P w K mg base A outer s H → BindsTo s fd args (ps.zip us) → Vals vs us → sp vs H Q E0 →
    codeAny (model P w) A (.call (.ref f) args) (CR CX0 outer P w H s Q E0) s
def cxM (P : Program) (w : World) (K : PySem.W.Frag) (mg : Str → Option Value) (base : Heap) (N : List Str) (qual : Str) (scope : Scope) (f : Addr) (cd : Value) (A : Around) (outer : List Env) (s : Shared) (H : Hp) (ea : Addr) (ob : Obj) : Cx :=
  { cxOf CX0 P w K mg base N qual scope f cd A outer s H E0 with calm := false, pn := [(ea, ob)], xe := fun _ _ => False }
theorem calm_m {P : Program} {w : World} {K : PySem.W.Frag} {mg : Str → Option Value} {base : Heap} {N : List Str} {qual : Str} {scope : Scope} {f : Addr} {cd : Value} {A : Around} {outer : List Env} {s : Shared} {H : Hp} {ea C : Addr} {dx : Option Addr} {ob : Obj} (mk : MkO C dx ob) (hh : A.handled = some (.ref ea)) :
    Calm (cxM P w K mg base N qual scope f cd A outer s H ea ob) := by
  obtain ⟨vs, sl, rfl, h2⟩ := mk.ex
  exact .inr ⟨ea, C, dx, vs, sl, hh, h2, List.mem_singleton.mpr rfl⟩
theorem fn_ofM {P : Program} {w : World} {K : PySem.W.Frag} {mg : Str → Option Value} {base : Heap} {k : Nat} {f : Addr} {name qual : Str} {params : Arguments} {body : List Stmt} {scope : Scope} {dV kV doc pm cdv ct oc : Value} {an od : Option Addr} {ea C : Addr} {dx : Option Addr} {ob : Obj}
    {osl : Array (Option Value)} {N ps : List Str} {sp : Sp} (mk : MkO C dx ob) (lk : K.lookup f = some ⟨oc, od, .func (PySem.W.fnOf name qual params body scope dV kV doc pm an cdv ct), osl⟩) (hcd : PySem.W.codeIn K cdv qual = true) (S : FnScope N ps scope)
    (len : ∀ vs H Q E, sp vs H Q E → vs.length = ps.length)
    (hbody : ∀ (A : Around) (outer : List Env) (s : Shared) (H : Hp) (vs : List V) (Q : VK), RoomM k (A.deeper (envOfC qual scope s.heap.objs.size f cdv)) → Calm (cxM P w K mg base N qual scope f cdv A outer s H ea ob) → A.handled = some (.ref ea) → sp vs H Q E0 →
      ∃ t, PSs (cxM P w K mg base N qual scope f cdv A outer s H ea ob) body t ∧ t { nx := fun _ H' => Q .non H', rt := Q } (start N vs) H) :
    FnOkM P w K mg base ea ob (k + 1) f (PySem.W.fnOf name qual params body scope dV kV doc pm an cdv ct) ps sp := by
  refine ⟨len, fun A outer s H args us vs Q hr hh hea hne hnf e0 hb r hsp => ?_⟩
  have hl := len _ _ _ _ hsp
  have KX : K.In s.heap := e0.mod.kin.keeps fun b o e => (e0.bs b o e).1
  have lim : s.heap.NoLimit := e0.mod.nolimit.keeps fun b o e => (e0.bs b o e).1
  refine codeAny_call_function hr.depth (KX _ _ lk) rfl S.co S.gen rfl (PySem.W.codeRec_of KX hcd) (hb _ _ _ _ ?_)
  refine wpAny_newFunctionEnv_cells S.kind (fun ⟨n, v⟩ hy => ?_) fun env he s1 x => ?_
  · rcases S.par n (List.of_mem_zip hy).1 with q | q
    · exact .inl q
    · exact .inr ⟨q, PySem.W.cellsFrom_some _ _ _ (.inl q)⟩
  subst he
  refine ⟨lim.keeps x.toInCall.keep, codeAny_func ?_⟩
  obtain ⟨t, ht, hq⟩ := hbody A outer s H vs Q (hr.deeper _) (calm_m mk hh) hh hsp
  have e1 : Env0 P w K mg base { A with handled := none } outer s H := ⟨e0.frames, e0.mod, e0.bs, e0.bsz, e0.funs, e0.frf, e0.hok, e0.bare⟩
  have I0 : Inv (cxOf CX0 P w K mg base N qual scope f cdv { A with handled := none } outer s H E0) [] (start N vs) H s1 := inv_start S rfl e1 hl r x
  have I : Inv (cxM P w K mg base N qual scope f cdv A outer s H ea ob) [] (start N vs) H s1 := by
    refine ⟨⟨I0.ok.mod, I0.ok.kind, I0.ok.glob, I0.ok.blt, I0.ok.above, I0.ok.inj, I0.ok.has, I0.ok.cab, (fun z => nomatch z), Around.frames_deeper e0.frames, I0.ok.stk, I0.ok.exf, I0.ok.bs, I0.ok.bsz, I0.ok.noex, I0.ok.exfs, I0.ok.funs, I0.ok.frf⟩, I0.os, I0.bare, I0.base, I0.loc, I0.cell, I0.free, I0.freeC, fun p hp => ?_, I0.hok, I0.len⟩
    obtain rfl : p = (ea, ob) := by simpa [cxM] using hp
    obtain ⟨vs', sl, rfl, _⟩ := mk.ex
    exact ⟨x.toInCall.keep _ _ hea, hne, Nat.ne_of_lt (Heap.lt_size hea), hnf, fun v z => by cases z⟩
  refine wpAny_mono (ht [] s1 (start N vs) H _ I hq) (fun fl s' hs => ?_) fun e s' hs => hs.elim
  cases fl with
  | ret u =>
    obtain ⟨v, σ', H', J, rv, q⟩ := hs
    exact ⟨v, H', J.os, J.bare, J.base, J.hok, rv, q⟩
  | next =>
    obtain ⟨σ', H', J, q⟩ := hs
    exact ⟨.non, H', J.os, J.bare, J.base, J.hok, rfl, q⟩
  | brk =>
    obtain ⟨_, _, _, q⟩ := hs
    exact q.elim
  | cont =>
    obtain ⟨_, _, _, q⟩ := hs
    exact q.elim
section
variable {P : Program} {w : World} {K : PySem.W.Frag} {mg : Str → Option Value} {base : Heap} {x qual : Str} {st : Stmt} {f : Addr} {fd : FuncData} {N ps : List Str} {k : Nat} {sp : Sp}
theorem Fun.okR (F : Fun K x qual st f fd) (S : FnScope N ps (defScope st)) (len : ∀ vs H Q E, sp vs H Q E → vs.length = ps.length)
    (hbody : ∀ (cdv : Value) (A : Around) (outer : List Env) (s : Shared) (H : Hp) (vs : List V) (Q : VK) (E : XK), Room k (A.deeper (envOfC qual (defScope st) s.heap.objs.size f cdv)) → sp vs H Q E →
      ∃ t, PSs (cxOf (CXE P w) P w K mg base N qual (defScope st) f cdv A outer s H E) (defBody st) t ∧ t { nx := fun _ H' => Q .non H', rt := Q } (start N vs) H) : FnOk P w K mg base (CXE P w) (k + 1) f fd ps sp := by
  obtain ⟨oc, od, kV, doc, pm, an, cdv, ct, osl, rfl, lk, hcd⟩ := F.ex
  exact fn_of lk hcd S len fun A outer s H vs Q E hr hsp => hbody cdv A outer s H vs Q E hr hsp
theorem Fun.okM {ea C : Addr} {dx : Option Addr} {ob : Obj} (F : Fun K x qual st f fd) (mk : MkO C dx ob) (S : FnScope N ps (defScope st)) (len : ∀ vs H Q E, sp vs H Q E → vs.length = ps.length)
    (hbody : ∀ (cdv : Value) (A : Around) (outer : List Env) (s : Shared) (H : Hp) (vs : List V) (Q : VK), RoomM k (A.deeper (envOfC qual (defScope st) s.heap.objs.size f cdv)) → Calm (cxM P w K mg base N qual (defScope st) f cdv A outer s H ea ob) → A.handled = some (.ref ea) → sp vs H Q E0 →
      ∃ t, PSs (cxM P w K mg base N qual (defScope st) f cdv A outer s H ea ob) (defBody st) t ∧ t { nx := fun _ H' => Q .non H', rt := Q } (start N vs) H) : FnOkM P w K mg base ea ob (k + 1) f fd ps sp := by
  obtain ⟨oc, od, kV, doc, pm, an, cdv, ct, osl, rfl, lk, hcd⟩ := F.ex
  exact fn_ofM mk lk hcd S len fun A outer s H vs Q hr hc hh hsp => hbody cdv A outer s H vs Q hr hc hh hsp
end
theorem cxKm {P : Program} {w : World} {K : PySem.W.Frag} {mg : Str → Option Value} {base : Heap} {N : List Str} {qual : Str} {scope : Scope} {f : Addr} {cd : Value} {A : Around} {outer : List Env} {s : Shared} {H : Hp} {ea : Addr} {ob : Obj} : (cxM P w K mg base N qual scope f cd A outer s H ea ob).K = K := rfl
theorem cxKs {X : Cx} {pins : List (Addr × Obj)} {ea : Addr} {ob : Obj} : (cxSuite X pins ea ob).K = X.K := rfl
theorem cxKt {X : Cx} {pins : List (Addr × Obj)} {E : Value → Shared → Prop} : (cxTry X pins E).K = X.K := rfl
structure Mkd (X : Cx) (ea : Addr) (ob : Obj) : Prop where
  hd : X.A.handled = some (.ref ea)
  pin : (ea, ob) ∈ X.pn
theorem mkd_suite {X : Cx} {pins : List (Addr × Obj)} {ea : Addr} {ob : Obj} : Mkd (cxSuite X pins ea ob) ea ob := ⟨rfl, List.mem_append_right _ (List.mem_singleton.mpr rfl)⟩
theorem mkd_m {P : Program} {w : World} {K : PySem.W.Frag} {mg : Str → Option Value} {base : Heap} {N : List Str} {qual : Str} {scope : Scope} {f : Addr} {cd : Value} {A : Around} {outer : List Env} {s : Shared} {H : Hp} {ea : Addr} {ob : Obj} (hh : A.handled = some (.ref ea)) : Mkd (cxM P w K mg base N qual scope f cd A outer s H ea ob) ea ob := ⟨hh, List.mem_singleton.mpr rfl⟩
section
variable {X : Cx} {k : Nat} {f C : Addr} {fd : FuncData} {ps : List Str} {sp : Sp} {ea : Addr} {ob : Obj} {x m : Str} {p pos apos : Pos} {e o : Expr} {es : List Expr} {ta : TE} {t : TA}
theorem run_fnM {pins : List (Addr × Obj)} {σ : St} {H : Hp} {s : Shared} {Q : VK} {us : List Value} {vs : List V} (F : FnOkM X.prog X.w X.K X.mg X.base ea ob k f fd ps sp) (mk : Mkd X ea ob) (hr : RoomM k X.A) (hb : Binds X.K fd ps [])
    (I : Inv X pins σ H s) (r : Vals vs us) (h : sp vs H Q E0) : wpAny (model X.prog X.w) X.A (call (.ref f) us) (EP X pins σ Q) X.xe s := by
  have hl : (us ++ []).length = ps.length := by rw [List.append_nil, ← r.length]; exact F.len _ _ _ _ h
  obtain ⟨p1, p2, p3, p4, _⟩ := I.pin _ (List.mem_append_left _ mk.pin)
  have hb' := hb s us I.kIn hl
  rw [List.append_nil] at hb'
  refine wpAny_call (codeAny_mono (F.run X.A X.stack s H ⟨us, []⟩ us vs Q hr mk.hd p1 p2 (fun z => (List.mem_cons.mp (I.stkSub _ z)).elim p3 p4) I.env0 hb' r h) fun r s' hq => ?_)
  cases r with
  | error e => exact hq.elim
  | ok fl => cases fl with
    | ret u => exact I.after hq
    | next => exact hq.elim
    | brk => exact hq.elim
    | cont => exact hq.elim
theorem pe_callM (F : FnOkM X.prog X.w X.K X.mg X.base ea ob k f fd ps sp) (mk : Mkd X ea ob) (hr : RoomM k X.A) (hg : Gl X x) (hm : X.mg x = some (.ref f)) (hk : PySem.W.keepIn X.K (.ref f) = true) (hb : Binds X.K fd ps [])
    (ha : PA X (e :: es) t) (hdb : (x == ("__debug__" : Str)) = false := by decide) (he : starEach (e :: es) X.env = (false, eval e X.env) :: starEach es X.env := by rfl) (hpl : (backTo pos (starEach es X.env)).any (·.1) = false := by rfl) :
    PE X (.Call (.Name x p) (e :: es) [] pos) (tCall sp [] E0 t) := by
  intro pins s σ H Q I h
  refine wpAny_Call_Name_kw (ld_glob I hg hm ?_ hdb)
  exact PySem.W.callWith_K (h₀ := X.base) I.ok.mod.kin hk (thn (ha pos pins s σ H _ I h) fun us s1 ⟨vs, H1, I1, r, q⟩ => ⟨I1.kIn, run_fnM F mk hr hb I1 r (by simpa only [List.append_nil] using q)⟩) he hpl
end
end L2
set_option Elab.async false
set_option linter.all false
set_option maxRecDepth 100000
namespace L2
open PySem PySem.Spec PyProof.Rows PySem.W
section
variable {prog : Program} {w : World} {A : Around} {E : Value → Shared → Prop} {s : Shared} {K : Frag} {x D : Addr} {ox : Obj} {od : Option Obj} {name : Str}
structure ErrA (K : Frag) (D : Addr) : Prop where
  ga : findIn K (.ref D) "__getattribute__" = some (some (.builtin "BaseException.__getattribute__"))
  gn : findIn K (.ref D) "__getattr__" = some none
  bx : mroIn K D (.type "BaseException") = some true
theorem check_ga {M : Model} {nameV : Value} {Q : Unit → Shared → Prop} (X : K.In s.heap) (I : InstAt s.heap x ox D od) (er : ErrA K D) (q : Q () s) : wpAny M A (checkBuiltinCall "BaseException.__getattribute__" ⟨[.ref x, nameV], []⟩) Q E s := by
  obtain ⟨h, g, d, t, os⟩ := s
  have hk : builtinKind "BaseException.__getattribute__" = some .slot := by decide +kernel
  have hsplit : splitId "BaseException.__getattribute__" = some ("BaseException", "__getattribute__") := by decide +kernel
  have ha := F.args_bexc_ga (.ref x) nameV
  have L0 := I.type (M := M)
  have L1 := looks_mroIn (M := M) X er.bx
  have LI : Looks M h (isInstance (.ref x) (.type "BaseException")) true := L0.andThen L1
  simp only [checkBuiltinCall, hk, hsplit]
  refine wpAny_bind (LI.at ?_)
  repeat (any_goals (first | assumption | wp_step))
theorem exc_called {tk : Tok} {Q : Value → Shared → Prop} (X : K.In s.heap) (I : InstAt s.heap x ox D od) (er : ErrA K D)
    (h : wpAny (model prog w) A.in1 (Builtin.«object.__getattribute__» ⟨[.ref x, .str name tk], []⟩) (fun fin s' => match fin with | .done (.ret v) => Q v s' | _ => False) (fun _ _ => False) s) :
    wpAny (model prog w) A (boundAndCalled (.builtin "BaseException.__getattribute__") (.ref x) (.str name tk)) Q E s := by
  have f3 := F.excAttr_ValueError.ga.bind (.ref x)
  unfold boundAndCalled
  rw [f3]
  refine wpAny_bind (wpAny_pure ?_)
  refine wpAny_call (codeAny_call_builtin F.excAttr_ValueError.ga.plain F.entry_bexc_ga (check_ga X I er (wpAny_mono h (fun fin s' z => ?_) fun _ _ z => z.elim)))
  rcases fin with (_ | _ | _ | _) | _ <;> first | exact z | exact z.elim
theorem exc_attr {tk : Tok} {fill expr : Bool} {Q : Value → Shared → Prop} (X : K.In s.heap) (I : InstAt s.heap x ox D od) (er : ErrA K D)
    (h : wpAny (model prog w) A.in1 (Builtin.«object.__getattribute__» ⟨[.ref x, .str name tk], []⟩) (fun fin s' => match fin with | .done (.ret v) => wpAny (model prog w) A (handedOut v) Q E s' | _ => False) (fun _ _ => False) s) :
    wpAny (model prog w) A (getAttrBy (.ref x) (.str name tk) fill expr) Q E s := by
  have L0 := I.type (M := model prog w)
  have L1 := looks_findIn (M := model prog w) X er.ga
  have L2 := looks_findIn (M := model prog w) X er.gn
  unfold getAttrBy
  refine wpAny_holding (wpAny_bind (L0.here (wpAny_bind (L1.here ?_))))
  have hx2 : (Value.builtin "BaseException.__getattribute__" == Value.builtin "object.__getattribute__") = false := by decide +kernel
  dsimp only
  rw [if_neg (by rw [hx2, Bool.and_false]; exact Bool.false_ne_true)]
  unfold getAttrByItsOwn hookBefore
  rw [if_pos (show onTheHeap (.ref D) = true from rfl)]
  refine wpAny_bind (L2.here ?_)
  refine wpAny_bind (wpAny_attempt (wpAny_holding ?_))
  unfold callGetattribute
  rw [if_neg (by cases expr <;> exact Bool.false_ne_true)]
  exact exc_called X I er h
theorem exc_class (hc : (clsIn K D).isSome = true) (ha : findIn K (.ref D) "__class__" = some (some (.builtin "object.__class__")))
    (hn : specialIn K (.builtin "object.__class__") "__get__" = some (some (.builtin "getset_descriptor.__get__"))) (htk : takesIn K (.builtin "object.__class__") = some true) (hm : mroIn K D (.type "object") = some true)
    {Q : Option Value → Shared → Prop} (X : K.In s.heap) (I : InstAt s.heap x ox D od) (er : ErrA K D) (h : Q (some (.ref D)) { s with toks := s.toks + 1 }) : wpAny (model prog w) A (getAttr? (.ref x) "__class__") Q E s := by
  have hf : findObj K D od "__class__" = some (.bind (.builtin "getset_descriptor.__get__") (.builtin "object.__class__")) := by
    obtain ⟨cd, hc⟩ := Option.isSome_iff_exists.mp hc
    unfold findObj
    rw [hc, Option.bind_some, ha, Option.bind_some]
    simp [hn, htk]
  have L0 := I.type (M := model prog w)
  have L1 := looks_find (M := model prog w) X I hf
  unfold getAttr? getAttrBy?
  refine wpAny_bind (wpAny_mkText (wpAny_bind (wpAny_attempt (exc_attr (s := { s with toks := s.toks + 1 }) X I er ?_))))
  refine wpAny_bind (wpAny_pure (wpAny_bind (wpAny_pure (wpAny_bind (L0.here (s := { s with toks := s.toks + 1 }) (wpAny_bind (L1.here (s := { s with toks := s.toks + 1 }) ?_)))))))
  show wpAny _ _ (holding [Value.builtin "object.__class__"] (call (.builtin "getset_descriptor.__get__") [.builtin "object.__class__", .ref x, .ref D]) >>= ret) _ _ _
  refine wpAny_bind (wpAny_holding (wpAny_call (class_get (s := { s with toks := s.toks + 1 }) (ox := ox) (od := od) X I hm ?_)))
  exact wpAny_pure (handed_on rfl (wpAny_pure h))
theorem kitx_exc (hc : (clsIn K D).isSome = true) (ha : findIn K (.ref D) "__class__" = some (some (.builtin "object.__class__")))
    (hn : specialIn K (.builtin "object.__class__") "__get__" = some (some (.builtin "getset_descriptor.__get__"))) (htk : takesIn K (.builtin "object.__class__") = some true) (hm : mroIn K D (.type "object") = some true) (er : ErrA K D) :
    KitX K (.ref x) (.ref D) (fun h => ∃ ox od, InstAt h x ox D od) where
  ty := fun _ _ _ ⟨_, _, I⟩ => I.type
  it := fun _ _ X _ => by
    obtain ⟨cd, hcD⟩ := Option.isSome_iff_exists.mp hc
    unfold clsIn at hcD
    split at hcD
    · rename_i ho
      intro A' Q' E' s' k q
      unfold isType loadHead
      exact wpAny_bind (wpAny_loadPart (k _ _ (X _ _ ho)) (wpAny_pure q))
    · cases hcD
  ne := fun h tp dd its n sl X htp => by
    obtain ⟨cd, hcD⟩ := Option.isSome_iff_exists.mp hc
    refine Bool.eq_false_iff.mpr fun q => ?_
    have e : D = tp := Value.ref.inj (beq_iff_eq.mp q)
    subst e
    unfold clsIn at hcD
    split at hcD
    · rename_i ho
      have z := (X _ _ ho).symm.trans htp
      cases z
    · cases hcD
  ca := fun X ⟨_, _, I⟩ k => exc_class hc ha hn htk hm X I er k
end
structure ErrK (K : Frag) (D : Addr) : Prop extends ErrA K D where
  cl : (clsIn K D).isSome = true
  ca : findIn K (.ref D) "__class__" = some (some (.builtin "object.__class__"))
  cg : specialIn K (.builtin "object.__class__") "__get__" = some (some (.builtin "getset_descriptor.__get__"))
  ct : takesIn K (.builtin "object.__class__") = some true
  cm : mroIn K D (.type "object") = some true
def clsV : V → Option Value
  | .ref a => some (.ref a)
  | .ty n => some (.type n)
  | _ => none
theorem clsV_rel {c : V} {v u : Value} (h : clsV c = some v) (r : RelV c u) : u = v := by
  cases c <;> simp only [clsV] at h <;> cases h <;> exact r
section
variable {X : Cx} {ea C : Addr} {dx : Option Addr} {ob : Obj}
theorem call_isinstE (mk : Mkd X ea ob) (mo : MkO C none ob) (er : ErrK X.K C) : CallR X (.builtin "isinstance") (fun xs H Q => ∃ c v b, xs = [.ref ea, c] ∧ clsV c = some v ∧ kitOne X.K (.ref C) v = some b ∧ Q (.bl b) H) := by
  intro pins s σ H xs us Q I r h
  obtain ⟨c, v, b, rfl, hv, e, q⟩ := h
  obtain ⟨u1, u2, rfl, r1, r2⟩ := vals2 r
  cases (show u1 = Value.ref ea from r1)
  cases clsV_rel hv r2
  obtain ⟨p1, _⟩ := I.pin _ (List.mem_append_left _ mk.pin)
  obtain ⟨vs, sl, rfl, _⟩ := mo.ex
  exact kia_one (kitx_exc er.cl er.ca er.cg er.ct er.cm er.toErrA) I.kIn ⟨_, none, ⟨p1, rfl, rfl, True.intro⟩⟩ e (fun z => nomatch z) fun tk => ⟨.bl b, H, I.tok _, rfl, q⟩
theorem call_isinstC : CallR X (.builtin "isinstance") (fun xs H Q => ∃ x c v t b, xs = [x, c] ∧ clsV c = some v ∧ TyOf X.K H x t ∧ kitOne X.K t v = some b ∧ Q (.bl b) H) := by
  intro pins s σ H xs us Q I r h
  obtain ⟨x, c, v, t, b, rfl, hv, ty, e, q⟩ := h
  obtain ⟨u1, u2, rfl, r1, r2⟩ := vals2 r
  cases clsV_rel hv r2
  exact isinst_ok I r1 ty e fun tk => ⟨.bl b, H, I.tok _, rfl, q⟩
end
end L2
set_option Elab.async false
set_option linter.all false
set_option maxRecDepth 100000
namespace L2
open PySem PySem.Spec PyProof.Rows PySem.Builtin PySem.Builtin.Str PySem.Builtin.Int
structure FunD (K : PySem.W.Frag) (x qual : Str) (st : Stmt) (f : Addr) (fd : FuncData) (items : Array Value) : Prop where
  ex : ∃ (oc : Value) (od : Option Addr) (kV doc pm : Value) (an : Option Addr) (cdv ct : Value) (osl : Array (Option Value)) (T : Addr) (oT : Obj) (n : Nat),
    fd = PySem.W.fnOf x qual (defArgs st) (defBody st) (defScope st) (.ref T) kV doc pm an cdv ct ∧ K.lookup f = some ⟨oc, od, .func fd, osl⟩ ∧ PySem.W.codeIn K cdv qual = true ∧ K.lookup T = some oT ∧ oT.data = .seq items n
  kp : PySem.W.keepIn K (.ref f) = true
section
variable {P : Program} {w : World} {K : PySem.W.Frag} {mg : Str → Option Value} {base : Heap} {x qual : Str} {st : Stmt} {f : Addr} {fd : FuncData} {items : Array Value} {N ps : List Str} {k : Nat} {sp : Sp}
theorem FunD.okR (F : FunD K x qual st f fd items) (S : FnScope N ps (defScope st)) (len : ∀ vs H Q E, sp vs H Q E → vs.length = ps.length)
    (hbody : ∀ (cdv : Value) (A : Around) (outer : List Env) (s : Shared) (H : Hp) (vs : List V) (Q : VK) (E : XK), Room k (A.deeper (envOfC qual (defScope st) s.heap.objs.size f cdv)) → sp vs H Q E →
      ∃ t, PSs (cxOf (CXE P w) P w K mg base N qual (defScope st) f cdv A outer s H E) (defBody st) t ∧ t { nx := fun _ H' => Q .non H', rt := Q } (start N vs) H) : FnOk P w K mg base (CXE P w) (k + 1) f fd ps sp := by
  obtain ⟨oc, od, kV, doc, pm, an, cdv, ct, osl, T, oT, n, rfl, lk, hcd, _⟩ := F.ex
  exact fn_of lk hcd S len fun A outer s H vs Q E hr hsp => hbody cdv A outer s H vs Q E hr hsp
theorem FunD.ok (F : FunD K x qual st f fd items) (S : FnScope N ps (defScope st)) (len : ∀ vs H Q E, sp vs H Q E → vs.length = ps.length)
    (hbody : ∀ (cdv : Value) (A : Around) (outer : List Env) (s : Shared) (H : Hp) (vs : List V) (Q : VK) (E : XK), Room k (A.deeper (envOfC qual (defScope st) s.heap.objs.size f cdv)) → sp vs H Q E →
      ∃ t, PSs (cxOf CX0 P w K mg base N qual (defScope st) f cdv A outer s H E).nox (defBody st) t ∧ t { nx := fun _ H' => Q .non H', rt := Q } (start N vs) H) : FnOk P w K mg base CX0 (k + 1) f fd ps sp := by
  obtain ⟨oc, od, kV, doc, pm, an, cdv, ct, osl, T, oT, n, rfl, lk, hcd, _⟩ := F.ex
  refine fn_of lk hcd S len fun A outer s H vs Q E hr hsp => ?_
  obtain ⟨t, h, q⟩ := hbody cdv A outer s H vs Q E hr hsp
  exact ⟨t, h.nox, q⟩
theorem FunD.binds {ds : List Value} (F : FunD K x qual st f fd items)
    (h : ∀ (T : Addr) (kV doc pm : Value) (an : Option Addr) (cdv ct : Value) (us : List Value), (us ++ ds).length = ps.length → ∃ k : Option (Array Value) → Sem (List (Str × Value)),
      bindArgs (PySem.W.fnOf x qual (defArgs st) (defBody st) (defScope st) (.ref T) kV doc pm an cdv ct) ⟨us, []⟩ = (seqItems? (.ref T) >>= k) ∧ k (some items) = pure (ps.zip (us ++ ds))) : Binds K fd ps ds := by
  obtain ⟨oc, od, kV, doc, pm, an, cdv, ct, osl, T, oT, n, rfl, lk, hcd, hT, hd⟩ := F.ex
  intro s us KX hl
  obtain ⟨k, h1, h2⟩ := h T kV doc pm an cdv ct us hl
  exact .of_defaults (k := k) rfl (KX _ _ hT) hd h1 h2
theorem funD_mk {oc : Value} {od an : Option Addr} {osl sT : Array (Option Value)} {kV doc pm cdv ct cT : Value} {T : Addr} {dT : Option Addr} {n : Nat} (l : K.lookup f = some ⟨oc, od, .func (PySem.W.fnOf x qual (defArgs st) (defBody st) (defScope st) (.ref T) kV doc pm an cdv ct), osl⟩)
    (c : PySem.W.codeIn K cdv qual = true) (k : PySem.W.keepIn K (.ref f) = true) (t : K.lookup T = some ⟨cT, dT, .seq items n, sT⟩) : FunD K x qual st f (PySem.W.fnOf x qual (defArgs st) (defBody st) (defScope st) (.ref T) kV doc pm an cdv ct) items :=
  ⟨⟨oc, od, kV, doc, pm, an, cdv, ct, osl, T, _, n, rfl, l, c, t, rfl⟩, k⟩
end
structure Disp (X : Cx) (m : Str) (k : Nat) (ps : List Str) (e : Addr × Sp) : Prop where
  cl : Cls X.K e.1
  ex : ∃ f fd, Meth X.K e.1 m f ∧ FnOk X.prog X.w X.K X.mg X.base CX0 k f fd ps e.2 ∧ Binds X.K fd ps []
theorem disp_nil {X : Cx} {m : Str} {k : Nat} {ps : List Str} : ∀ e ∈ ([] : List (Addr × Sp)), Disp X m k ps e := fun e h => nomatch h
theorem disp_cons {X : Cx} {m : Str} {k j : Nat} {ps : List Str} {C f : Addr} {fd : FuncData} {sp : Sp} {tab : List (Addr × Sp)} (cl : Cls X.K C) (hm : Meth X.K C m f) (F : FnOk X.prog X.w X.K X.mg X.base CX0 j f fd ps sp) (hj : j ≤ k) (hb : Binds X.K fd ps []) (r : ∀ e ∈ tab, Disp X m k ps e) : ∀ e ∈ (C, sp) :: tab, Disp X m k ps e :=
  fun e h => (List.mem_cons.mp h).elim (fun z => by rw [z]; exact ⟨cl, f, fd, hm, F.mono hj, hb⟩) (r e)
def tMethV (tab : List (Addr × Sp)) (m : Str) (ta : TE) (t : TA) : TE := fun σ H Q => ta σ H fun x H1 => ∃ a dx fs e, e ∈ tab ∧ x = .ref a ∧ H1 a = some (.ins e.1 dx fs) ∧ fs.lookup m = none ∧ t σ H1 fun vs H2 => e.2 (x :: vs) H2 Q E0
section
variable {X : Cx} {k : Nat} {ps : List Str} {tab : List (Addr × Sp)} {m : Str} {pos apos : Pos} {e o : Expr} {es : List Expr} {ta : TE} {t : TA}
theorem pe_meth0V {pl : Sem Bool} (he : PE X o ta) (D : ∀ e ∈ tab, Disp X m k ps e) (hr : Room k X.A)
    (ht : eval (.Call (.Attribute o m apos) [] [] pos) X.env = (eval o X.env >>= fun ov => standAt apos.atName >>= fun _ => holding [ov] (getMethod ov m pl) >>= fun r => callWith pos r.1 r.2 (backTo pos (starEach [] X.env)) (backToKw pos (keywordEach [] X.env))) := by rfl) :
    PE X (.Call (.Attribute o m apos) [] [] pos) (tMethV tab m ta tNil) := by
  intro pins s σ H Q I h
  refine PySem.W.methodCall_KW (pl := pl) (thn (he pins s σ H _ I h) fun u s1 ⟨x, H1, I1, rx, a, dx, fs, C, hC, ex, ea, l, q⟩ => ?_) ht
  subst ex
  cases (show u = Value.ref a from rx)
  obtain ⟨c, f, fd, hm, F, hb⟩ := D C hC
  exact getmeth_ok I1 ea c hm l (PySem.W.callWith_K0 (first := [.ref a]) I1.kIn hm.kp (run_fn (us := [.ref a]) (vs := [.ref a]) (dvs := []) (ds := []) F hr hb .nil pass0 I1 (.cons rfl .nil) q))
end
theorem pg_pairC {X : Cx} {K : PySem.W.Frag} {scope : Scope} {cl : List (Str × Addr)} {a b : Str} {N : List Str} {C : Addr} {ex : List Addr} {s₀ : Shared} {H₀ : Hp} {k} {pa pb pos : Pos} (hK : X.K = K) (hc : Calm X) (hN : (a :: b :: N).Nodup) (la : Loc (compEnvC scope cl C X.env).scope a) (lb : Loc (compEnvC scope cl C X.env).scope b)
    (fa : (compEnvC scope cl C X.env).scope.names.lookup a = some .local) (fb : (compEnvC scope cl C X.env).scope.names.lookup b = some .local) :
    PG (cxComp X scope cl (a :: b :: N) C ex s₀ H₀) (.Tuple [.Name a pa, .Name b pb] k pos) (gTup K 2 (gCons (gName 0) (gCons (gName 1) gNil))) := by
  subst hK
  exact pg_tup (X := cxComp X scope cl (a :: b :: N) C ex s₀ H₀) (n := 2) (calm_comp hc) (pgs_cons (pg_name (i := 0) hN rfl la (.inr fa)) (pgs_cons (pg_name (i := 1) hN rfl lb (.inr fb)) pgs_nil))
theorem comp_pairs {K : PySem.W.Frag} {J : It} {H : Hp} {ts : List Addr} {u v : Addr → V} {tt : TT} {te : TE} {cs : St} {F : List V → Hp → Prop} (S : SrcIs J H (ts.map V.ref)) (ht : ∀ t ∈ ts, SqT K H t [u t, v t]) (p : Addr → Bool) (f : Addr → V)
    (htt : ∀ t ∈ ts, ∀ Q : Bool → Hp → Prop, Q (p t) H → tt (some (u t) :: some (v t) :: cs) H Q) (hte : ∀ t ∈ ts, p t = true → ∀ Q : VK, Q (f t) H → te (some (u t) :: some (v t) :: cs) H Q) (hn : ts.length ≤ sizeLine) (hF : F ((ts.filter p).map f) H) :
    ∃ W : Nat → Nat → List V → Hp → Prop, (∃ m, W 0 m [] H) ∧ CompW J (gTup K 2 (gCons (gName 0) (gCons (gName 1) gNil))) tt te (none :: none :: cs) W F := by
  refine ⟨fun i m ys H' => m = ts.length - i ∧ i ≤ ts.length ∧ H' = H ∧ ys = ((ts.take i).filter p).map f, ⟨ts.length, by simp, Nat.zero_le _, rfl, by simp⟩, ?_⟩
  rintro i m ys H' ⟨rfl, hi, rfl, rfl⟩
  have hlen : (((ts.take i).filter p).map f).length ≤ sizeLine := by
    rw [List.length_map]
    refine Nat.le_trans (List.length_filter_le _ _) ?_
    rw [List.length_take]
    omega
  by_cases hlt : i < ts.length
  · refine .inr ⟨S.go i (by rw [List.length_map]; exact hlt), fun ys' H'' => H'' = H' ∧ ys' = ((ts.take (i + 1)).filter p).map f, fun ys' H'' h => ⟨ts.length - (i + 1), by omega, rfl, hlt, h.1, h.2⟩, fun x H'' y => ?_⟩
    obtain ⟨rfl, hx⟩ := S.yld i x H'' (by rw [List.length_map]; exact hlt) y
    rw [List.getElem?_map] at hx
    obtain ⟨t, e, rfl⟩ := Option.map_eq_some_iff.mp hx
    have hm : t ∈ ts := List.mem_of_getElem? e
    have htk : ts.take (i + 1) = ts.take i ++ [t] := by
      rw [List.take_add_one, e]; rfl
    refine ⟨t, [u t, v t], rfl, ht t hm, rfl, u t, [v t], rfl, v t, [], rfl, rfl, ⟨by simp, fun j z hz => ?_⟩, ?_⟩
    · match j, hz with
      | 0, hz => cases hz
      | 1, hz => cases hz
      | (j + 2), hz => exact hz
    · refine htt t hm _ ?_
      cases hp : p t with
      | true =>
        rw [if_pos rfl]
        refine hte t hm hp _ ⟨hlen, rfl, ?_⟩
        rw [htk, List.filter_append, List.map_append]
        simp [hp]
      | false =>
        rw [if_neg (by decide)]
        refine ⟨rfl, ?_⟩
        rw [htk, List.filter_append, List.map_append]
        simp [hp]
  · have e : i = ts.length := by omega
    subst e
    refine .inl ⟨by have := S.stop; rw [List.length_map] at this; exact this, hlen, ?_⟩
    rw [List.take_length]
    exact hF
def rUpper : V → List V → Hp → VK → Prop := fun x xs H Q => ∃ z, x = .str z ∧ xs = [] ∧ tooLong (Txt.upper z).length = false ∧ Q (.str (Txt.upper z)) H
theorem mt_upper {X : Cx} : MtR X "str.upper" rUpper := by
  intro pins s σ H x vs v us Q I rx rv h
  obtain ⟨z, rfl, rfl, hf, q⟩ := h
  obtain ⟨t, rfl⟩ := rx
  cases rv
  exact SC.upper hf ⟨.str (Txt.upper z), H, I.tok _, ⟨_, rfl⟩, q⟩
end L2

set_option Elab.async false
set_option linter.all false
set_option maxRecDepth 100000
namespace Pf
open PySem L2

def top (i : Nat) : Stmt := PySem.Challenge.pw_floorways_k07_made.main.body.getD i (.Pass ⟨0, 0, 0, 0⟩)
abbrev s__wall : Stmt := top 0
abbrev s_Meets_init : Stmt := inClass (top 12) 0
abbrev s_Closed_init : Stmt := inClass (top 16) 0
abbrev s_Jammed_init : Stmt := inClass (top 17) 0
abbrev s_is_whole : Stmt := top 19
abbrev s_is_among : Stmt := top 20
abbrev s_Carrier_init : Stmt := inClass (top 24) 0
abbrev s_Carrier_kind : Stmt := inClass (top 24) 1
abbrev s_Carrier_may_stand : Stmt := inClass (top 24) 2
abbrev s_Carrier_gain : Stmt := inClass (top 24) 3
abbrev s_Carrier_fare : Stmt := inClass (top 24) 4
abbrev s_Carrier_cost : Stmt := inClass (top 24) 5
abbrev s_Carrier_steps : Stmt := inClass (top 24) 6
abbrev s_Carrier_stayed : Stmt := inClass (top 24) 7
abbrev s_Carrier_fare_if_standing : Stmt := inClass (top 24) 8
abbrev s_Cart_kind : Stmt := inClass (top 25) 0
abbrev s_Crawler_kind : Stmt := inClass (top 26) 0
abbrev s_Crawler_may_stand : Stmt := inClass (top 26) 1
abbrev s_Crawler_gain : Stmt := inClass (top 26) 2
abbrev s_Crawler_fare : Stmt := inClass (top 26) 3
abbrev s_Runner_kind : Stmt := inClass (top 27) 0
abbrev s_Runner_gain : Stmt := inClass (top 27) 1
abbrev s_Runner_fare : Stmt := inClass (top 27) 2
abbrev s_carrier_of : Stmt := top 28
abbrev s_Lat : Stmt := top 30
abbrev s_Lwhole : Stmt := top 31
abbrev s_Lword : Stmt := top 32
abbrev s_Lsaid : Stmt := top 33
abbrev s_Lalone : Stmt := top 34
abbrev s_Lright : Stmt := top 35
abbrev s_law : Stmt := top 36
structure Ad where
  is_whole : Addr
  is_among : Addr
  Carrier_init : Addr
  Cart_kind : Addr
  Crawler_kind : Addr
  Runner_kind : Addr
  carrier_of : Addr
  Lat : Addr
  Lwhole : Addr
  Lword : Addr
  Lsaid : Addr
  Lalone : Addr
  Lright : Addr
  law : Addr
  C_Carrier : Addr
  C_Cart : Addr
  C_Crawler : Addr
  C_Runner : Addr
  C_BadKind : Addr
  C_BadCharge : Addr
  C_FloorError : Addr
  C_BadFloor : Addr
  C_BadCell : Addr
  C_BadStops : Addr
  C_BadWay : Addr
  C_Empty : Addr
  C_NoCarrier : Addr
  C_NoTask : Addr
  C_Meets : Addr
  C_Taken : Addr
  C_Busy : Addr
  C_NoReserve : Addr
  C_Closed : Addr
  C_Jammed : Addr
  K_KINDS : Addr
structure Txt (K : PySem.W.Frag) (mg : Str → Option Value) (ad : Ad) : Prop where
  b_len : mg "len" = none
  b_range : mg "range" = none
  b_isinstance : mg "isinstance" = none
  b_int : mg "int" = none
  b_bool : mg "bool" = none
  b_str : mg "str" = none
  b_ValueError : mg "ValueError" = none
  c_KINDS : ∃ u, mg "KINDS" = some u ∧ RelV (.ref ad.K_KINDS) u
  c_MOST_FULL : ∃ u, mg "MOST_FULL" = some u ∧ RelV (V.int 60) u
  mg_is_whole : mg "is_whole" = some (.ref ad.is_whole)
  k_is_whole : PySem.W.keepIn K (.ref ad.is_whole) = true
  mg_is_among : mg "is_among" = some (.ref ad.is_among)
  k_is_among : PySem.W.keepIn K (.ref ad.is_among) = true
  m_Cart_kind : Meth K ad.C_Cart "kind" ad.Cart_kind
  m_Crawler_kind : Meth K ad.C_Crawler "kind" ad.Crawler_kind
  m_Runner_kind : Meth K ad.C_Runner "kind" ad.Runner_kind
  mg_carrier_of : mg "carrier_of" = some (.ref ad.carrier_of)
  k_carrier_of : PySem.W.keepIn K (.ref ad.carrier_of) = true
  mg_Lat : mg "_law_at" = some (.ref ad.Lat)
  k_Lat : PySem.W.keepIn K (.ref ad.Lat) = true
  mg_Lwhole : mg "_law_whole" = some (.ref ad.Lwhole)
  k_Lwhole : PySem.W.keepIn K (.ref ad.Lwhole) = true
  mg_Lword : mg "_law_word" = some (.ref ad.Lword)
  k_Lword : PySem.W.keepIn K (.ref ad.Lword) = true
  mg_Lsaid : mg "_law_said" = some (.ref ad.Lsaid)
  k_Lsaid : PySem.W.keepIn K (.ref ad.Lsaid) = true
  mg_Lalone : mg "_law_alone" = some (.ref ad.Lalone)
  k_Lalone : PySem.W.keepIn K (.ref ad.Lalone) = true
  mg_Lright : mg "_law_right" = some (.ref ad.Lright)
  k_Lright : PySem.W.keepIn K (.ref ad.Lright) = true
  mg_law : mg "law" = some (.ref ad.law)
  k_law : PySem.W.keepIn K (.ref ad.law) = true
  mg_Carrier : mg "Carrier" = some (.ref ad.C_Carrier)
  cl_Carrier : Cls K ad.C_Carrier
  n_Carrier_full : NoAttr K ad.C_Carrier "full"
  mk_Carrier : Mk K ad.C_Carrier ad.Carrier_init
  mg_Cart : mg "Cart" = some (.ref ad.C_Cart)
  cl_Cart : Cls K ad.C_Cart
  n_Cart_full : NoAttr K ad.C_Cart "full"
  mk_Cart : Mk K ad.C_Cart ad.Carrier_init
  mg_Crawler : mg "Crawler" = some (.ref ad.C_Crawler)
  cl_Crawler : Cls K ad.C_Crawler
  n_Crawler_full : NoAttr K ad.C_Crawler "full"
  mk_Crawler : Mk K ad.C_Crawler ad.Carrier_init
  mg_Runner : mg "Runner" = some (.ref ad.C_Runner)
  cl_Runner : Cls K ad.C_Runner
  n_Runner_full : NoAttr K ad.C_Runner "full"
  mk_Runner : Mk K ad.C_Runner ad.Carrier_init
  mg_BadKind : mg "BadKind" = some (.ref ad.C_BadKind)
  er_BadKind : ErrC K ad.C_BadKind
  mg_BadCharge : mg "BadCharge" = some (.ref ad.C_BadCharge)
  er_BadCharge : ErrC K ad.C_BadCharge
  mg_FloorError : mg "FloorError" = some (.ref ad.C_FloorError)
  mg_BadFloor : mg "BadFloor" = some (.ref ad.C_BadFloor)
  mg_BadCell : mg "BadCell" = some (.ref ad.C_BadCell)
  mg_BadStops : mg "BadStops" = some (.ref ad.C_BadStops)
  mg_BadWay : mg "BadWay" = some (.ref ad.C_BadWay)
  mg_Empty : mg "Empty" = some (.ref ad.C_Empty)
  mg_NoCarrier : mg "NoCarrier" = some (.ref ad.C_NoCarrier)
  mg_NoTask : mg "NoTask" = some (.ref ad.C_NoTask)
  mg_Meets : mg "Meets" = some (.ref ad.C_Meets)
  mg_Taken : mg "Taken" = some (.ref ad.C_Taken)
  mg_Busy : mg "Busy" = some (.ref ad.C_Busy)
  mg_NoReserve : mg "NoReserve" = some (.ref ad.C_NoReserve)
  mg_Closed : mg "Closed" = some (.ref ad.C_Closed)
  mg_Jammed : mg "Jammed" = some (.ref ad.C_Jammed)
  xm_BadKind_FloorError : PySem.W.exmOne K (.ref ad.C_BadKind) (.ref ad.C_FloorError) = some true
  xm_BadCharge_FloorError : PySem.W.exmOne K (.ref ad.C_BadCharge) (.ref ad.C_FloorError) = some true
  is_BadKind_BadFloor : PySem.W.kitOne K (.ref ad.C_BadKind) (.ref ad.C_BadFloor) = some false
  is_BadKind_BadKind : PySem.W.kitOne K (.ref ad.C_BadKind) (.ref ad.C_BadKind) = some true
  is_BadKind_BadCell : PySem.W.kitOne K (.ref ad.C_BadKind) (.ref ad.C_BadCell) = some false
  is_BadKind_BadCharge : PySem.W.kitOne K (.ref ad.C_BadKind) (.ref ad.C_BadCharge) = some false
  is_BadKind_BadStops : PySem.W.kitOne K (.ref ad.C_BadKind) (.ref ad.C_BadStops) = some false
  is_BadKind_BadWay : PySem.W.kitOne K (.ref ad.C_BadKind) (.ref ad.C_BadWay) = some false
  is_BadKind_Empty : PySem.W.kitOne K (.ref ad.C_BadKind) (.ref ad.C_Empty) = some false
  is_BadKind_NoCarrier : PySem.W.kitOne K (.ref ad.C_BadKind) (.ref ad.C_NoCarrier) = some false
  is_BadKind_NoTask : PySem.W.kitOne K (.ref ad.C_BadKind) (.ref ad.C_NoTask) = some false
  is_BadKind_Meets : PySem.W.kitOne K (.ref ad.C_BadKind) (.ref ad.C_Meets) = some false
  is_BadKind_Taken : PySem.W.kitOne K (.ref ad.C_BadKind) (.ref ad.C_Taken) = some false
  is_BadKind_Busy : PySem.W.kitOne K (.ref ad.C_BadKind) (.ref ad.C_Busy) = some false
  is_BadKind_NoReserve : PySem.W.kitOne K (.ref ad.C_BadKind) (.ref ad.C_NoReserve) = some false
  is_BadKind_Closed : PySem.W.kitOne K (.ref ad.C_BadKind) (.ref ad.C_Closed) = some false
  is_BadKind_Jammed : PySem.W.kitOne K (.ref ad.C_BadKind) (.ref ad.C_Jammed) = some false
  is_BadKind_FloorError : PySem.W.kitOne K (.ref ad.C_BadKind) (.ref ad.C_FloorError) = some true
  is_BadKind_ValueError : PySem.W.kitOne K (.ref ad.C_BadKind) (.type "ValueError") = some true
  ga_BadKind : PySem.W.findIn K (.ref ad.C_BadKind) "__getattribute__" = some (some (.builtin "BaseException.__getattribute__"))
  gn_BadKind : PySem.W.findIn K (.ref ad.C_BadKind) "__getattr__" = some none
  bx_BadKind : PySem.W.mroIn K ad.C_BadKind (.type "BaseException") = some true
  cl_BadKind : (PySem.W.clsIn K ad.C_BadKind).isSome = true
  ca_BadKind : PySem.W.findIn K (.ref ad.C_BadKind) "__class__" = some (some (.builtin "object.__class__"))
  cm_BadKind : PySem.W.mroIn K ad.C_BadKind (.type "object") = some true
  is_BadCharge_BadFloor : PySem.W.kitOne K (.ref ad.C_BadCharge) (.ref ad.C_BadFloor) = some false
  is_BadCharge_BadKind : PySem.W.kitOne K (.ref ad.C_BadCharge) (.ref ad.C_BadKind) = some false
  is_BadCharge_BadCell : PySem.W.kitOne K (.ref ad.C_BadCharge) (.ref ad.C_BadCell) = some false
  is_BadCharge_BadCharge : PySem.W.kitOne K (.ref ad.C_BadCharge) (.ref ad.C_BadCharge) = some true
  is_BadCharge_BadStops : PySem.W.kitOne K (.ref ad.C_BadCharge) (.ref ad.C_BadStops) = some false
  is_BadCharge_BadWay : PySem.W.kitOne K (.ref ad.C_BadCharge) (.ref ad.C_BadWay) = some false
  is_BadCharge_Empty : PySem.W.kitOne K (.ref ad.C_BadCharge) (.ref ad.C_Empty) = some false
  is_BadCharge_NoCarrier : PySem.W.kitOne K (.ref ad.C_BadCharge) (.ref ad.C_NoCarrier) = some false
  is_BadCharge_NoTask : PySem.W.kitOne K (.ref ad.C_BadCharge) (.ref ad.C_NoTask) = some false
  is_BadCharge_Meets : PySem.W.kitOne K (.ref ad.C_BadCharge) (.ref ad.C_Meets) = some false
  is_BadCharge_Taken : PySem.W.kitOne K (.ref ad.C_BadCharge) (.ref ad.C_Taken) = some false
  is_BadCharge_Busy : PySem.W.kitOne K (.ref ad.C_BadCharge) (.ref ad.C_Busy) = some false
  is_BadCharge_NoReserve : PySem.W.kitOne K (.ref ad.C_BadCharge) (.ref ad.C_NoReserve) = some false
  is_BadCharge_Closed : PySem.W.kitOne K (.ref ad.C_BadCharge) (.ref ad.C_Closed) = some false
  is_BadCharge_Jammed : PySem.W.kitOne K (.ref ad.C_BadCharge) (.ref ad.C_Jammed) = some false
  is_BadCharge_FloorError : PySem.W.kitOne K (.ref ad.C_BadCharge) (.ref ad.C_FloorError) = some true
  is_BadCharge_ValueError : PySem.W.kitOne K (.ref ad.C_BadCharge) (.type "ValueError") = some true
  ga_BadCharge : PySem.W.findIn K (.ref ad.C_BadCharge) "__getattribute__" = some (some (.builtin "BaseException.__getattribute__"))
  gn_BadCharge : PySem.W.findIn K (.ref ad.C_BadCharge) "__getattr__" = some none
  bx_BadCharge : PySem.W.mroIn K ad.C_BadCharge (.type "BaseException") = some true
  cl_BadCharge : (PySem.W.clsIn K ad.C_BadCharge).isSome = true
  ca_BadCharge : PySem.W.findIn K (.ref ad.C_BadCharge) "__class__" = some (some (.builtin "object.__class__"))
  cm_BadCharge : PySem.W.mroIn K ad.C_BadCharge (.type "object") = some true
  cgx : PySem.W.specialIn K (.builtin "object.__class__") "__get__" = some (some (.builtin "getset_descriptor.__get__"))
  ctx : PySem.W.takesIn K (.builtin "object.__class__") = some true
  ca_Cart : PySem.W.findIn K (.ref ad.C_Cart) "__class__" = some (some (.builtin "object.__class__"))
  cm_Cart : PySem.W.mroIn K ad.C_Cart (.type "object") = some true
  is_Cart_Carrier : PySem.W.kitOne K (.ref ad.C_Cart) (.ref ad.C_Carrier) = some true
  is_Cart_Cart : PySem.W.kitOne K (.ref ad.C_Cart) (.ref ad.C_Cart) = some true
  is_Cart_Crawler : PySem.W.kitOne K (.ref ad.C_Cart) (.ref ad.C_Crawler) = some false
  is_Cart_Runner : PySem.W.kitOne K (.ref ad.C_Cart) (.ref ad.C_Runner) = some false
  ca_Crawler : PySem.W.findIn K (.ref ad.C_Crawler) "__class__" = some (some (.builtin "object.__class__"))
  cm_Crawler : PySem.W.mroIn K ad.C_Crawler (.type "object") = some true
  is_Crawler_Carrier : PySem.W.kitOne K (.ref ad.C_Crawler) (.ref ad.C_Carrier) = some true
  is_Crawler_Cart : PySem.W.kitOne K (.ref ad.C_Crawler) (.ref ad.C_Cart) = some false
  is_Crawler_Crawler : PySem.W.kitOne K (.ref ad.C_Crawler) (.ref ad.C_Crawler) = some true
  is_Crawler_Runner : PySem.W.kitOne K (.ref ad.C_Crawler) (.ref ad.C_Runner) = some false
  ca_Runner : PySem.W.findIn K (.ref ad.C_Runner) "__class__" = some (some (.builtin "object.__class__"))
  cm_Runner : PySem.W.mroIn K ad.C_Runner (.type "object") = some true
  is_Runner_Carrier : PySem.W.kitOne K (.ref ad.C_Runner) (.ref ad.C_Carrier) = some true
  is_Runner_Cart : PySem.W.kitOne K (.ref ad.C_Runner) (.ref ad.C_Cart) = some false
  is_Runner_Crawler : PySem.W.kitOne K (.ref ad.C_Runner) (.ref ad.C_Crawler) = some false
  is_Runner_Runner : PySem.W.kitOne K (.ref ad.C_Runner) (.ref ad.C_Runner) = some true
  kt_KINDS : ∀ H, SqT K H ad.K_KINDS [V.str (Str.ofString "cart"), V.str (Str.ofString "crawler"), V.str (Str.ofString "runner")]

def isI : V → Bool
  | .int _ => true
  | _ => false
def isIB : V → Bool
  | .int _ => true
  | .bl _ => true
  | _ => false
def isB : V → Bool
  | .bl _ => true
  | _ => false
/-- a value of a built-in kind -/
def TyB (K : PySem.W.Frag) (H : Hp) (x : V) : Prop := ∃ n, TyOf K H x (.type n)
theorem kit_int {K : PySem.W.Frag} {H : Hp} {x : V} {n : String} (h : TyOf K H x (.type n)) : PySem.W.kitOne K (.type n) (.type "int") = some (isIB x) := by
  cases h <;> rfl
theorem kit_bool {K : PySem.W.Frag} {H : Hp} {x : V} {n : String} (h : TyOf K H x (.type n)) : PySem.W.kitOne K (.type n) (.type "bool") = some (isB x) := by
  cases h <;> rfl
def spWhole (K : PySem.W.Frag) : Sp := fun vs H Q _ => ∃ x, vs = [x] ∧ TyB K H x ∧ Q (.bl (isI x)) H
theorem tSeq_cut {t u : TS} {D : Ends} {σ : St} {H : Hp} (M : St → Hp → Prop) (h1 : ∀ nx : St → Hp → Prop, (∀ σ' H', M σ' H' → nx σ' H') → t { D with nx := nx } σ H) (h2 : ∀ σ' H', M σ' H' → u D σ' H') : tSeq t u D σ H := h1 (u D) h2
def amg : V → Int → Int → Bool
  | .int i, lo, hi => decide (lo ≤ i) && decide (i ≤ hi)
  | _, _, _ => false
def spAmong (K : PySem.W.Frag) : Sp := fun vs H Q _ => ∃ x lo hi, vs = [x, .int lo, .int hi] ∧ TyB K H x ∧ Q (.bl (amg x lo hi)) H
def spAt (K : PySem.W.Frag) : Sp := fun vs H Q _ => ∃ (a : Addr) (ns : List Int) (k : Int), vs = [.ref a, .int k] ∧ SqL K H a (ns.map V.int) ∧ ns.length ≤ 63 ∧ 0 ≤ k ∧ k ≤ 1000 ∧ ∀ r : Int, 0 ≤ r → r < 2147483647 → Q (.int r) H

theorem tyB_same {K : PySem.W.Frag} {H H' : Hp} {v : V} (S : Same H H') (h : TyB K H v) : TyB K H' v := by
  obtain ⟨n, t⟩ := h
  cases t with
  | non => exact ⟨_, .non⟩
  | bl x => exact ⟨_, .bl x⟩
  | int i => exact ⟨_, .int i⟩
  | str x => exact ⟨_, .str x⟩
  | flt x => exact ⟨_, .flt x⟩
  | lst e => exact ⟨_, .lst (S _ _ e)⟩
  | frz e => exact ⟨_, .frz (S _ _ e)⟩
  | tup e => exact ⟨_, .tup (S _ _ e)⟩
  | dK e => exact ⟨_, .dK (S _ _ e)⟩
  | dT e => exact ⟨_, .dT (S _ _ e)⟩
def errs (ad : Ad) : List Addr := [ad.C_BadFloor, ad.C_BadKind, ad.C_BadCell, ad.C_BadCharge, ad.C_BadStops, ad.C_BadWay, ad.C_Empty, ad.C_NoCarrier, ad.C_NoTask, ad.C_Meets, ad.C_Taken, ad.C_Busy, ad.C_NoReserve, ad.C_Closed, ad.C_Jammed]
def words : List Str := ["floor", "kind", "cell", "charge", "stops", "way", "empty", "carrier", "task", "meets", "taken", "busy", "reserve", "closed", "jammed"]
structure Says (ad : Ad) (K : PySem.W.Frag) (C : Addr) (n : Nat) : Prop where
  k : ErrK K C
  is : ∀ i D, (errs ad)[i]? = some D → PySem.W.kitOne K (.ref C) (.ref D) = some (decide (i = n))
  fe : PySem.W.kitOne K (.ref C) (.ref ad.C_FloorError) = some true
  ve : PySem.W.kitOne K (.ref C) (.type "ValueError") = some true
theorem says_BadKind {K : PySem.W.Frag} {mg : Str → Option Value} {ad : Ad} (T : Txt K mg ad) : Says ad K ad.C_BadKind 1 where
  k := ⟨⟨T.ga_BadKind, T.gn_BadKind, T.bx_BadKind⟩, T.cl_BadKind, T.ca_BadKind, T.cgx, T.ctx, T.cm_BadKind⟩
  is := fun i D h => by
    match i, h with
    | 0, h => cases h; exact T.is_BadKind_BadFloor
    | 1, h => cases h; exact T.is_BadKind_BadKind
    | 2, h => cases h; exact T.is_BadKind_BadCell
    | 3, h => cases h; exact T.is_BadKind_BadCharge
    | 4, h => cases h; exact T.is_BadKind_BadStops
    | 5, h => cases h; exact T.is_BadKind_BadWay
    | 6, h => cases h; exact T.is_BadKind_Empty
    | 7, h => cases h; exact T.is_BadKind_NoCarrier
    | 8, h => cases h; exact T.is_BadKind_NoTask
    | 9, h => cases h; exact T.is_BadKind_Meets
    | 10, h => cases h; exact T.is_BadKind_Taken
    | 11, h => cases h; exact T.is_BadKind_Busy
    | 12, h => cases h; exact T.is_BadKind_NoReserve
    | 13, h => cases h; exact T.is_BadKind_Closed
    | 14, h => cases h; exact T.is_BadKind_Jammed
    | (i + 15), h => simp [errs] at h
  fe := T.is_BadKind_FloorError
  ve := T.is_BadKind_ValueError
theorem says_BadCharge {K : PySem.W.Frag} {mg : Str → Option Value} {ad : Ad} (T : Txt K mg ad) : Says ad K ad.C_BadCharge 3 where
  k := ⟨⟨T.ga_BadCharge, T.gn_BadCharge, T.bx_BadCharge⟩, T.cl_BadCharge, T.ca_BadCharge, T.cgx, T.ctx, T.cm_BadCharge⟩
  is := fun i D h => by
    match i, h with
    | 0, h => cases h; exact T.is_BadCharge_BadFloor
    | 1, h => cases h; exact T.is_BadCharge_BadKind
    | 2, h => cases h; exact T.is_BadCharge_BadCell
    | 3, h => cases h; exact T.is_BadCharge_BadCharge
    | 4, h => cases h; exact T.is_BadCharge_BadStops
    | 5, h => cases h; exact T.is_BadCharge_BadWay
    | 6, h => cases h; exact T.is_BadCharge_Empty
    | 7, h => cases h; exact T.is_BadCharge_NoCarrier
    | 8, h => cases h; exact T.is_BadCharge_NoTask
    | 9, h => cases h; exact T.is_BadCharge_Meets
    | 10, h => cases h; exact T.is_BadCharge_Taken
    | 11, h => cases h; exact T.is_BadCharge_Busy
    | 12, h => cases h; exact T.is_BadCharge_NoReserve
    | 13, h => cases h; exact T.is_BadCharge_Closed
    | 14, h => cases h; exact T.is_BadCharge_Jammed
    | (i + 15), h => simp [errs] at h
  fe := T.is_BadCharge_FloorError
  ve := T.is_BadCharge_ValueError

/-- the first m pairs of a word and whether it is so (it is so of the n-th alone) -/
def PairsAt (n m : Nat) (H : Hp) (l : Addr) : Prop := ∃ ts : List Addr, ts.length = m ∧ H l = some (.lst (ts.map V.ref)) ∧ ∀ i t, ts[i]? = some t → H t = some (.tup [.str (words.getD i ""), .bl (decide (i = n))])
theorem PairsAt.same {n m : Nat} {H H' : Hp} {l : Addr} (s : Same H H') (h : PairsAt n m H l) : PairsAt n m H' l := by
  obtain ⟨ts, h1, h2, h3⟩ := h
  exact ⟨ts, h1, s _ _ h2, fun i t e => s _ _ (h3 i t e)⟩
theorem PairsAt.add {n m : Nat} {H H' : Hp} {d : Addr} {ts us : List Addr} (hl : ts.length = m) (h3 : ∀ i t, ts[i]? = some t → H t = some (.tup [.str (words.getD i ""), .bl (decide (i = n))])) (S : Same H H')
    (hu : ∀ i t, us[i]? = some t → H' t = some (.tup [.str (words.getD (m + i) ""), .bl (decide (m + i = n))])) (hd : H' d = some (.lst (ts.map V.ref ++ us.map V.ref))) : PairsAt n (m + us.length) H' d := by
  refine ⟨ts ++ us, by simp [hl], by rw [hd, List.map_append], fun i t e => ?_⟩
  by_cases q : i < ts.length
  · rw [List.getElem?_append_left q] at e
    exact S _ _ (h3 i t e)
  · rw [List.getElem?_append_right (by omega)] at e
    have := hu _ _ e
    rw [show m + (i - ts.length) = i by omega] at this
    exact this
theorem filt_none {p : Addr → Bool} {f : Addr → V} {n : Nat} : ∀ (ts : List Addr) (k : Nat), (∀ i t, ts[i]? = some t → p t = decide (k + i = n)) → n < k → (ts.filter p).map f = []
  | [], _, _, _ => rfl
  | t :: ts, k, h, hk => by
    have e := h 0 t rfl
    rw [decide_eq_false (by omega)] at e
    rw [List.filter_cons, if_neg (by rw [e]; decide)]
    exact filt_none ts (k + 1) (fun i t' q => by rw [h (i + 1) t' q, show k + (i + 1) = k + 1 + i by omega]) (by omega)
theorem filt_one {p : Addr → Bool} {f : Addr → V} {g : Nat → V} {n : Nat} : ∀ (ts : List Addr) (k : Nat), (∀ i t, ts[i]? = some t → p t = decide (k + i = n) ∧ f t = g (k + i)) → k ≤ n → n < k + ts.length → (ts.filter p).map f = [g n]
  | [], k, _, h1, h2 => by simp at h2; omega
  | t :: ts, k, h, h1, h2 => by
    obtain ⟨e1, e2⟩ := h 0 t rfl
    by_cases q : k = n
    · rw [decide_eq_true (by omega)] at e1
      rw [List.filter_cons, if_pos e1, List.map_cons, filt_none ts (k + 1) (fun i t' z => by rw [(h (i + 1) t' z).1, show k + (i + 1) = k + 1 + i by omega]) (by omega), e2]
      simp [q]
    · rw [decide_eq_false (by omega)] at e1
      rw [List.filter_cons, if_neg (by rw [e1]; decide)]
      exact filt_one ts (k + 1) (fun i t' z => by
        obtain ⟨a, b⟩ := h (i + 1) t' z
        rw [a, b, show k + 1 + i = k + (i + 1) by omega]
        exact ⟨rfl, rfl⟩) (by omega) (by simp at h2; omega)
def fst (H : Hp) (t : Addr) : V := match H t with
  | some (.tup [x, _]) => x
  | _ => .non
def snd (H : Hp) (t : Addr) : V := match H t with
  | some (.tup [_, y]) => y
  | _ => .non
def tru : V → Bool
  | .bl b => b
  | _ => false
def kinds : List Str := ["cart", "crawler", "runner"]
def clsOf (ad : Ad) : Nat → Addr
  | 0 => ad.C_Cart
  | 1 => ad.C_Crawler
  | _ => ad.C_Runner
def CarAt (H : Hp) (p C : Addr) (n : Int) : Prop := ∃ dx, H p = some (.ins C dx (putF "full" (.int n) []))
def notKind (K : PySem.W.Frag) (H : Hp) (v : V) : Prop := (∃ x, v = .str x ∧ ¬ x ∈ kinds) ∨ (TyB K H v ∧ ∀ x, v ≠ .str x)
def spInitA (ad : Ad) : Sp := fun vs H Q _ => ∃ (p dx : Addr) (n : Int) (i : Nat), vs = [.ref p, .int n] ∧ H p = some (.ins (clsOf ad i) dx []) ∧ Q .non (upd H p (.ins (clsOf ad i) dx (putF "full" (.int n) [])))
def spKind (z : Str) : Sp := fun vs H Q _ => ∃ x, vs = [x] ∧ Q (.str z) H
def spMake (ad : Ad) (K : PySem.W.Frag) : Sp := fun vs H Q E => ∃ k f, vs = [k, f] ∧ ((notKind K H k ∧ E (.ref ad.C_BadKind) none H) ∨
  (∃ x ∈ kinds, k = .str x ∧ TyB K H f ∧ amg f 1 60 = false ∧ E (.ref ad.C_BadCharge) none H) ∨
  ∃ (i : Nat) (x : Str) (n : Int), kinds[i]? = some x ∧ k = .str x ∧ f = .int n ∧ 1 ≤ n ∧ n ≤ 60 ∧ ∀ p H', Same H H' → H p = none → CarAt H' p (clsOf ad i) n → Q (.ref p) H')
def spWord (ad : Ad) (K : PySem.W.Frag) (ea C : Addr) (dx : Option Addr) : Sp := fun vs H Q _ => ∃ n, vs = [.ref ea] ∧ dx = none ∧ Says ad K C n ∧ (n = 1 ∨ n = 3) ∧ ∀ H', Same H H' → Q (.str (words.getD n "")) H'
def spSaid (ad : Ad) (K : PySem.W.Frag) : Sp := fun vs H Q _ => ∃ k f, vs = [k, f] ∧ ((notKind K H k ∧ ∀ H', Same H H' → Q (.str "kind") H') ∨ (∃ x ∈ kinds, k = .str x ∧ TyB K H f ∧ amg f 1 60 = false ∧ ∀ H', Same H H' → Q (.str "charge") H'))
def spAlone (ad : Ad) (K : PySem.W.Frag) : Sp := fun vs H Q _ => ∃ k, vs = [k] ∧ notKind K H k ∧ ∀ H', Same H H' → Q (.str "kind") H'
def spRight (ad : Ad) : Sp := fun vs H Q _ => ∃ (p : Addr) (i : Nat) (x : Str) (n : Int), vs = [.ref p, .str x, .int n] ∧ kinds[i]? = some x ∧ CarAt H p (clsOf ad i) n ∧ ∀ H', Same H H' → Q (.bl true) H'
theorem cls_of {K : PySem.W.Frag} {mg : Str → Option Value} {ad : Ad} (T : Txt K mg ad) : ∀ i, Cls K (clsOf ad i)
  | 0 => T.cl_Cart
  | 1 => T.cl_Crawler
  | (_ + 2) => T.cl_Runner
theorem nof_of {K : PySem.W.Frag} {mg : Str → Option Value} {ad : Ad} (T : Txt K mg ad) : ∀ i, NoAttr K (clsOf ad i) "full"
  | 0 => T.n_Cart_full
  | 1 => T.n_Crawler_full
  | (_ + 2) => T.n_Runner_full
theorem kit_str {K : PySem.W.Frag} {H : Hp} {x : V} {n : String} (h : TyOf K H x (.type n)) (hs : ∀ z, x ≠ .str z) : PySem.W.kitOne K (.type n) (.type "str") = some false := by
  cases h <;> first | rfl | exact absurd rfl (hs _)
theorem kit_str' {K : PySem.W.Frag} : PySem.W.kitOne K (.type "str") (.type "str") = some true := rfl
theorem in_kinds {x : Str} : inV (.str x) [V.str (Str.ofString "cart"), V.str (Str.ofString "crawler"), V.str (Str.ofString "runner")] = decide (x ∈ kinds) := by
  have e : ∀ a : Str, (a == x) = decide (x = a) := fun a => by
    rw [Bool.eq_iff_iff, beq_iff_eq, decide_eq_true_iff]
    exact eq_comm
  simp only [inV, eqV, List.any_cons, List.any_nil, Bool.or_false, kinds, List.mem_cons, List.not_mem_nil, or_false]
  rw [e, e, e, Bool.decide_or, Bool.decide_or]
def carCs (ad : Ad) : List Addr := [ad.C_Carrier, ad.C_Cart, ad.C_Crawler, ad.C_Runner]
theorem car_of {K : PySem.W.Frag} {mg : Str → Option Value} {ad : Ad} (T : Txt K mg ad) {H : Hp} {p dx : Addr} {fs : List (Str × V)} {i : Nat} (hp : H p = some (.ins (clsOf ad i) dx fs)) :
    TyOf K H (.ref p) (.ref (clsOf ad i)) ∧ ∀ j D, (carCs ad)[j]? = some D → PySem.W.kitOne K (.ref (clsOf ad i)) (.ref D) = some (decide (j = 0 ∨ j = min i 2 + 1)) := by
  match i, hp with
  | 0, hp => exact ⟨.ins hp T.cl_Cart T.ca_Cart T.cgx T.ctx T.cm_Cart, fun j D h => by match j, h with | 0, h => cases h; exact T.is_Cart_Carrier | 1, h => cases h; exact T.is_Cart_Cart | 2, h => cases h; exact T.is_Cart_Crawler | 3, h => cases h; exact T.is_Cart_Runner | (j + 4), h => simp [carCs] at h⟩
  | 1, hp => exact ⟨.ins hp T.cl_Crawler T.ca_Crawler T.cgx T.ctx T.cm_Crawler, fun j D h => by match j, h with | 0, h => cases h; exact T.is_Crawler_Carrier | 1, h => cases h; exact T.is_Crawler_Cart | 2, h => cases h; exact T.is_Crawler_Crawler | 3, h => cases h; exact T.is_Crawler_Runner | (j + 4), h => simp [carCs] at h⟩
  | (i + 2), hp => exact ⟨.ins hp T.cl_Runner T.ca_Runner T.cgx T.ctx T.cm_Runner, fun j D h => by match j, h with | 0, h => cases h; exact T.is_Runner_Carrier | 1, h => cases h; rw [show decide (1 = 0 ∨ 1 = min (i + 2) 2 + 1) = false by simp]; exact T.is_Runner_Cart | 2, h => cases h; rw [show decide (2 = 0 ∨ 2 = min (i + 2) 2 + 1) = false by simp]; exact T.is_Runner_Crawler | 3, h => cases h; rw [show decide (3 = 0 ∨ 3 = min (i + 2) 2 + 1) = true by simp]; exact T.is_Runner_Runner | (j + 4), h => simp [carCs] at h⟩
open Builtin.Str in
theorem kz : ∀ (j : Nat) (z : Str), kinds[j]? = some z → tooLong (Txt.upper z).length = false ∧ z.length ≤ 10 ∧ ¬ Txt.upper z ∈ kinds ∧ ¬ (z ++ Str.ofString "s") ∈ kinds ∧ ¬ Txt.slice z (some 1) none ∈ kinds ∧ ¬ (Str.ofString " " ++ z) ∈ kinds
  | 0, _, h => by cases h; exact ⟨by decide +kernel, by decide +kernel, by decide +kernel, by decide +kernel, by decide +kernel, by decide +kernel⟩
  | 1, _, h => by cases h; exact ⟨by decide +kernel, by decide +kernel, by decide +kernel, by decide +kernel, by decide +kernel, by decide +kernel⟩
  | 2, _, h => by cases h; exact ⟨by decide +kernel, by decide +kernel, by decide +kernel, by decide +kernel, by decide +kernel, by decide +kernel⟩
  | (j + 3), _, h => by simp [kinds] at h
theorem notKind.same {K : PySem.W.Frag} {H H' : Hp} {v : V} (S : Same H H') (h : notKind K H v) : notKind K H' v := by
  rcases h with h | ⟨⟨n, t⟩, h⟩
  · exact .inl h
  · exact .inr ⟨tyB_same S ⟨n, t⟩, h⟩
def spLaw (K : PySem.W.Frag) : Sp := fun vs H Q _ => ∃ (a : Addr) (ns : List Int), vs = [.ref a] ∧ SqL K H a (ns.map V.int) ∧ ns.length ≤ 63 ∧ ∀ H', Q (.bl true) H'
seal PA PE PS PSs PI PG
section
variable {P : Program} {w : World} {K : PySem.W.Frag} {mg : Str → Option Value} {base : Heap} {ad : Ad}
theorem d_BadCell : (("BadCell" : Str) == ("__debug__" : Str)) = false := by decide +kernel
theorem e_BadCell : (("BadCell" : Str) == ("__classdict__" : Str)) = false := by decide +kernel
theorem n_BadCell : ("BadCell" : Str) ≠ "__name__" := by decide +kernel
theorem d_BadCharge : (("BadCharge" : Str) == ("__debug__" : Str)) = false := by decide +kernel
theorem e_BadCharge : (("BadCharge" : Str) == ("__classdict__" : Str)) = false := by decide +kernel
theorem n_BadCharge : ("BadCharge" : Str) ≠ "__name__" := by decide +kernel
theorem d_BadFloor : (("BadFloor" : Str) == ("__debug__" : Str)) = false := by decide +kernel
theorem e_BadFloor : (("BadFloor" : Str) == ("__classdict__" : Str)) = false := by decide +kernel
theorem n_BadFloor : ("BadFloor" : Str) ≠ "__name__" := by decide +kernel
theorem d_BadKind : (("BadKind" : Str) == ("__debug__" : Str)) = false := by decide +kernel
theorem e_BadKind : (("BadKind" : Str) == ("__classdict__" : Str)) = false := by decide +kernel
theorem n_BadKind : ("BadKind" : Str) ≠ "__name__" := by decide +kernel
theorem d_BadStops : (("BadStops" : Str) == ("__debug__" : Str)) = false := by decide +kernel
theorem e_BadStops : (("BadStops" : Str) == ("__classdict__" : Str)) = false := by decide +kernel
theorem n_BadStops : ("BadStops" : Str) ≠ "__name__" := by decide +kernel
theorem d_BadWay : (("BadWay" : Str) == ("__debug__" : Str)) = false := by decide +kernel
theorem e_BadWay : (("BadWay" : Str) == ("__classdict__" : Str)) = false := by decide +kernel
theorem n_BadWay : ("BadWay" : Str) ≠ "__name__" := by decide +kernel
theorem d_Busy : (("Busy" : Str) == ("__debug__" : Str)) = false := by decide +kernel
theorem e_Busy : (("Busy" : Str) == ("__classdict__" : Str)) = false := by decide +kernel
theorem n_Busy : ("Busy" : Str) ≠ "__name__" := by decide +kernel
theorem d_Carrier : (("Carrier" : Str) == ("__debug__" : Str)) = false := by decide +kernel
theorem e_Carrier : (("Carrier" : Str) == ("__classdict__" : Str)) = false := by decide +kernel
theorem n_Carrier : ("Carrier" : Str) ≠ "__name__" := by decide +kernel
theorem d_Cart : (("Cart" : Str) == ("__debug__" : Str)) = false := by decide +kernel
theorem e_Cart : (("Cart" : Str) == ("__classdict__" : Str)) = false := by decide +kernel
theorem n_Cart : ("Cart" : Str) ≠ "__name__" := by decide +kernel
theorem d_Closed : (("Closed" : Str) == ("__debug__" : Str)) = false := by decide +kernel
theorem e_Closed : (("Closed" : Str) == ("__classdict__" : Str)) = false := by decide +kernel
theorem n_Closed : ("Closed" : Str) ≠ "__name__" := by decide +kernel
theorem d_Crawler : (("Crawler" : Str) == ("__debug__" : Str)) = false := by decide +kernel
theorem e_Crawler : (("Crawler" : Str) == ("__classdict__" : Str)) = false := by decide +kernel
theorem n_Crawler : ("Crawler" : Str) ≠ "__name__" := by decide +kernel
theorem d_Empty : (("Empty" : Str) == ("__debug__" : Str)) = false := by decide +kernel
theorem e_Empty : (("Empty" : Str) == ("__classdict__" : Str)) = false := by decide +kernel
theorem n_Empty : ("Empty" : Str) ≠ "__name__" := by decide +kernel
theorem d_FloorError : (("FloorError" : Str) == ("__debug__" : Str)) = false := by decide +kernel
theorem e_FloorError : (("FloorError" : Str) == ("__classdict__" : Str)) = false := by decide +kernel
theorem n_FloorError : ("FloorError" : Str) ≠ "__name__" := by decide +kernel
theorem d_Jammed : (("Jammed" : Str) == ("__debug__" : Str)) = false := by decide +kernel
theorem e_Jammed : (("Jammed" : Str) == ("__classdict__" : Str)) = false := by decide +kernel
theorem n_Jammed : ("Jammed" : Str) ≠ "__name__" := by decide +kernel
theorem d_KINDS : (("KINDS" : Str) == ("__debug__" : Str)) = false := by decide +kernel
theorem e_KINDS : (("KINDS" : Str) == ("__classdict__" : Str)) = false := by decide +kernel
theorem n_KINDS : ("KINDS" : Str) ≠ "__name__" := by decide +kernel
theorem d_MOST_FULL : (("MOST_FULL" : Str) == ("__debug__" : Str)) = false := by decide +kernel
theorem e_MOST_FULL : (("MOST_FULL" : Str) == ("__classdict__" : Str)) = false := by decide +kernel
theorem n_MOST_FULL : ("MOST_FULL" : Str) ≠ "__name__" := by decide +kernel
theorem d_Meets : (("Meets" : Str) == ("__debug__" : Str)) = false := by decide +kernel
theorem e_Meets : (("Meets" : Str) == ("__classdict__" : Str)) = false := by decide +kernel
theorem n_Meets : ("Meets" : Str) ≠ "__name__" := by decide +kernel
theorem d_NoCarrier : (("NoCarrier" : Str) == ("__debug__" : Str)) = false := by decide +kernel
theorem e_NoCarrier : (("NoCarrier" : Str) == ("__classdict__" : Str)) = false := by decide +kernel
theorem n_NoCarrier : ("NoCarrier" : Str) ≠ "__name__" := by decide +kernel
theorem d_NoReserve : (("NoReserve" : Str) == ("__debug__" : Str)) = false := by decide +kernel
theorem e_NoReserve : (("NoReserve" : Str) == ("__classdict__" : Str)) = false := by decide +kernel
theorem n_NoReserve : ("NoReserve" : Str) ≠ "__name__" := by decide +kernel
theorem d_NoTask : (("NoTask" : Str) == ("__debug__" : Str)) = false := by decide +kernel
theorem e_NoTask : (("NoTask" : Str) == ("__classdict__" : Str)) = false := by decide +kernel
theorem n_NoTask : ("NoTask" : Str) ≠ "__name__" := by decide +kernel
theorem d_Runner : (("Runner" : Str) == ("__debug__" : Str)) = false := by decide +kernel
theorem e_Runner : (("Runner" : Str) == ("__classdict__" : Str)) = false := by decide +kernel
theorem n_Runner : ("Runner" : Str) ≠ "__name__" := by decide +kernel
theorem d_Taken : (("Taken" : Str) == ("__debug__" : Str)) = false := by decide +kernel
theorem e_Taken : (("Taken" : Str) == ("__classdict__" : Str)) = false := by decide +kernel
theorem n_Taken : ("Taken" : Str) ≠ "__name__" := by decide +kernel
theorem d_ValueError : (("ValueError" : Str) == ("__debug__" : Str)) = false := by decide +kernel
theorem e_ValueError : (("ValueError" : Str) == ("__classdict__" : Str)) = false := by decide +kernel
theorem n_ValueError : ("ValueError" : Str) ≠ "__name__" := by decide +kernel
theorem d__law_alone : (("_law_alone" : Str) == ("__debug__" : Str)) = false := by decide +kernel
theorem e__law_alone : (("_law_alone" : Str) == ("__classdict__" : Str)) = false := by decide +kernel
theorem n__law_alone : ("_law_alone" : Str) ≠ "__name__" := by decide +kernel
theorem d__law_at : (("_law_at" : Str) == ("__debug__" : Str)) = false := by decide +kernel
theorem e__law_at : (("_law_at" : Str) == ("__classdict__" : Str)) = false := by decide +kernel
theorem n__law_at : ("_law_at" : Str) ≠ "__name__" := by decide +kernel
theorem d__law_bad : (("_law_bad" : Str) == ("__debug__" : Str)) = false := by decide +kernel
theorem e__law_bad : (("_law_bad" : Str) == ("__classdict__" : Str)) = false := by decide +kernel
theorem n__law_bad : ("_law_bad" : Str) ≠ "__name__" := by decide +kernel
theorem d__law_cell : (("_law_cell" : Str) == ("__debug__" : Str)) = false := by decide +kernel
theorem e__law_cell : (("_law_cell" : Str) == ("__classdict__" : Str)) = false := by decide +kernel
theorem n__law_cell : ("_law_cell" : Str) ≠ "__name__" := by decide +kernel
theorem d__law_error : (("_law_error" : Str) == ("__debug__" : Str)) = false := by decide +kernel
theorem e__law_error : (("_law_error" : Str) == ("__classdict__" : Str)) = false := by decide +kernel
theorem n__law_error : ("_law_error" : Str) ≠ "__name__" := by decide +kernel
theorem d__law_found : (("_law_found" : Str) == ("__debug__" : Str)) = false := by decide +kernel
theorem e__law_found : (("_law_found" : Str) == ("__classdict__" : Str)) = false := by decide +kernel
theorem n__law_found : ("_law_found" : Str) ≠ "__name__" := by decide +kernel
theorem d__law_full : (("_law_full" : Str) == ("__debug__" : Str)) = false := by decide +kernel
theorem e__law_full : (("_law_full" : Str) == ("__classdict__" : Str)) = false := by decide +kernel
theorem n__law_full : ("_law_full" : Str) ≠ "__name__" := by decide +kernel
theorem d__law_k : (("_law_k" : Str) == ("__debug__" : Str)) = false := by decide +kernel
theorem e__law_k : (("_law_k" : Str) == ("__classdict__" : Str)) = false := by decide +kernel
theorem n__law_k : ("_law_k" : Str) ≠ "__name__" := by decide +kernel
theorem d__law_kind : (("_law_kind" : Str) == ("__debug__" : Str)) = false := by decide +kernel
theorem e__law_kind : (("_law_kind" : Str) == ("__classdict__" : Str)) = false := by decide +kernel
theorem n__law_kind : ("_law_kind" : Str) ≠ "__name__" := by decide +kernel
theorem d__law_odd : (("_law_odd" : Str) == ("__debug__" : Str)) = false := by decide +kernel
theorem e__law_odd : (("_law_odd" : Str) == ("__classdict__" : Str)) = false := by decide +kernel
theorem n__law_odd : ("_law_odd" : Str) ≠ "__name__" := by decide +kernel
theorem d__law_one : (("_law_one" : Str) == ("__debug__" : Str)) = false := by decide +kernel
theorem e__law_one : (("_law_one" : Str) == ("__classdict__" : Str)) = false := by decide +kernel
theorem n__law_one : ("_law_one" : Str) ≠ "__name__" := by decide +kernel
theorem d__law_right : (("_law_right" : Str) == ("__debug__" : Str)) = false := by decide +kernel
theorem e__law_right : (("_law_right" : Str) == ("__classdict__" : Str)) = false := by decide +kernel
theorem n__law_right : ("_law_right" : Str) ≠ "__name__" := by decide +kernel
theorem d__law_said : (("_law_said" : Str) == ("__debug__" : Str)) = false := by decide +kernel
theorem e__law_said : (("_law_said" : Str) == ("__classdict__" : Str)) = false := by decide +kernel
theorem n__law_said : ("_law_said" : Str) ≠ "__name__" := by decide +kernel
theorem d__law_script : (("_law_script" : Str) == ("__debug__" : Str)) = false := by decide +kernel
theorem e__law_script : (("_law_script" : Str) == ("__classdict__" : Str)) = false := by decide +kernel
theorem n__law_script : ("_law_script" : Str) ≠ "__name__" := by decide +kernel
theorem d__law_some : (("_law_some" : Str) == ("__debug__" : Str)) = false := by decide +kernel
theorem e__law_some : (("_law_some" : Str) == ("__classdict__" : Str)) = false := by decide +kernel
theorem n__law_some : ("_law_some" : Str) ≠ "__name__" := by decide +kernel
theorem d__law_thing : (("_law_thing" : Str) == ("__debug__" : Str)) = false := by decide +kernel
theorem e__law_thing : (("_law_thing" : Str) == ("__classdict__" : Str)) = false := by decide +kernel
theorem n__law_thing : ("_law_thing" : Str) ≠ "__name__" := by decide +kernel
theorem d__law_told : (("_law_told" : Str) == ("__debug__" : Str)) = false := by decide +kernel
theorem e__law_told : (("_law_told" : Str) == ("__classdict__" : Str)) = false := by decide +kernel
theorem n__law_told : ("_law_told" : Str) ≠ "__name__" := by decide +kernel
theorem d__law_whole : (("_law_whole" : Str) == ("__debug__" : Str)) = false := by decide +kernel
theorem e__law_whole : (("_law_whole" : Str) == ("__classdict__" : Str)) = false := by decide +kernel
theorem n__law_whole : ("_law_whole" : Str) ≠ "__name__" := by decide +kernel
theorem d__law_word : (("_law_word" : Str) == ("__debug__" : Str)) = false := by decide +kernel
theorem e__law_word : (("_law_word" : Str) == ("__classdict__" : Str)) = false := by decide +kernel
theorem n__law_word : ("_law_word" : Str) ≠ "__name__" := by decide +kernel
theorem d__law_worse : (("_law_worse" : Str) == ("__debug__" : Str)) = false := by decide +kernel
theorem e__law_worse : (("_law_worse" : Str) == ("__classdict__" : Str)) = false := by decide +kernel
theorem n__law_worse : ("_law_worse" : Str) ≠ "__name__" := by decide +kernel
theorem d__law_wrong : (("_law_wrong" : Str) == ("__debug__" : Str)) = false := by decide +kernel
theorem e__law_wrong : (("_law_wrong" : Str) == ("__classdict__" : Str)) = false := by decide +kernel
theorem n__law_wrong : ("_law_wrong" : Str) ≠ "__name__" := by decide +kernel
theorem d_bool : (("bool" : Str) == ("__debug__" : Str)) = false := by decide +kernel
theorem e_bool : (("bool" : Str) == ("__classdict__" : Str)) = false := by decide +kernel
theorem n_bool : ("bool" : Str) ≠ "__name__" := by decide +kernel
theorem d_carrier_of : (("carrier_of" : Str) == ("__debug__" : Str)) = false := by decide +kernel
theorem e_carrier_of : (("carrier_of" : Str) == ("__classdict__" : Str)) = false := by decide +kernel
theorem n_carrier_of : ("carrier_of" : Str) ≠ "__name__" := by decide +kernel
theorem d_full : (("full" : Str) == ("__debug__" : Str)) = false := by decide +kernel
theorem e_full : (("full" : Str) == ("__classdict__" : Str)) = false := by decide +kernel
theorem n_full : ("full" : Str) ≠ "__name__" := by decide +kernel
theorem d_int : (("int" : Str) == ("__debug__" : Str)) = false := by decide +kernel
theorem e_int : (("int" : Str) == ("__classdict__" : Str)) = false := by decide +kernel
theorem n_int : ("int" : Str) ≠ "__name__" := by decide +kernel
theorem d_is_among : (("is_among" : Str) == ("__debug__" : Str)) = false := by decide +kernel
theorem e_is_among : (("is_among" : Str) == ("__classdict__" : Str)) = false := by decide +kernel
theorem n_is_among : ("is_among" : Str) ≠ "__name__" := by decide +kernel
theorem d_is_whole : (("is_whole" : Str) == ("__debug__" : Str)) = false := by decide +kernel
theorem e_is_whole : (("is_whole" : Str) == ("__classdict__" : Str)) = false := by decide +kernel
theorem n_is_whole : ("is_whole" : Str) ≠ "__name__" := by decide +kernel
theorem d_isinstance : (("isinstance" : Str) == ("__debug__" : Str)) = false := by decide +kernel
theorem e_isinstance : (("isinstance" : Str) == ("__classdict__" : Str)) = false := by decide +kernel
theorem n_isinstance : ("isinstance" : Str) ≠ "__name__" := by decide +kernel
theorem d_kind : (("kind" : Str) == ("__debug__" : Str)) = false := by decide +kernel
theorem e_kind : (("kind" : Str) == ("__classdict__" : Str)) = false := by decide +kernel
theorem n_kind : ("kind" : Str) ≠ "__name__" := by decide +kernel
theorem d_least : (("least" : Str) == ("__debug__" : Str)) = false := by decide +kernel
theorem e_least : (("least" : Str) == ("__classdict__" : Str)) = false := by decide +kernel
theorem n_least : ("least" : Str) ≠ "__name__" := by decide +kernel
theorem d_len : (("len" : Str) == ("__debug__" : Str)) = false := by decide +kernel
theorem e_len : (("len" : Str) == ("__classdict__" : Str)) = false := by decide +kernel
theorem n_len : ("len" : Str) ≠ "__name__" := by decide +kernel
theorem d_most : (("most" : Str) == ("__debug__" : Str)) = false := by decide +kernel
theorem e_most : (("most" : Str) == ("__classdict__" : Str)) = false := by decide +kernel
theorem n_most : ("most" : Str) ≠ "__name__" := by decide +kernel
theorem d_range : (("range" : Str) == ("__debug__" : Str)) = false := by decide +kernel
theorem e_range : (("range" : Str) == ("__classdict__" : Str)) = false := by decide +kernel
theorem n_range : ("range" : Str) ≠ "__name__" := by decide +kernel
theorem d_self : (("self" : Str) == ("__debug__" : Str)) = false := by decide +kernel
theorem e_self : (("self" : Str) == ("__classdict__" : Str)) = false := by decide +kernel
theorem n_self : ("self" : Str) ≠ "__name__" := by decide +kernel
theorem d_str : (("str" : Str) == ("__debug__" : Str)) = false := by decide +kernel
theorem e_str : (("str" : Str) == ("__classdict__" : Str)) = false := by decide +kernel
theorem n_str : ("str" : Str) ≠ "__name__" := by decide +kernel
theorem d_thing : (("thing" : Str) == ("__debug__" : Str)) = false := by decide +kernel
theorem e_thing : (("thing" : Str) == ("__classdict__" : Str)) = false := by decide +kernel
theorem n_thing : ("thing" : Str) ≠ "__name__" := by decide +kernel
theorem l_is_whole_thing : (defScope s_is_whole).names.lookup ("thing" : Str) = some .local := by decide +kernel
theorem v_is_whole_thing : Vis (defScope s_is_whole) "thing" := Or.inl l_is_whole_thing
theorem l_is_among_thing : (defScope s_is_among).names.lookup ("thing" : Str) = some .local := by decide +kernel
theorem v_is_among_thing : Vis (defScope s_is_among) "thing" := Or.inl l_is_among_thing
theorem l_is_among_least : (defScope s_is_among).names.lookup ("least" : Str) = some .local := by decide +kernel
theorem v_is_among_least : Vis (defScope s_is_among) "least" := Or.inl l_is_among_least
theorem l_is_among_most : (defScope s_is_among).names.lookup ("most" : Str) = some .local := by decide +kernel
theorem v_is_among_most : Vis (defScope s_is_among) "most" := Or.inl l_is_among_most
theorem l_Carrier_init_self : (defScope s_Carrier_init).names.lookup ("self" : Str) = some .local := by decide +kernel
theorem v_Carrier_init_self : Vis (defScope s_Carrier_init) "self" := Or.inl l_Carrier_init_self
theorem l_Carrier_init_full : (defScope s_Carrier_init).names.lookup ("full" : Str) = some .local := by decide +kernel
theorem v_Carrier_init_full : Vis (defScope s_Carrier_init) "full" := Or.inl l_Carrier_init_full
theorem l_Cart_kind_self : (defScope s_Cart_kind).names.lookup ("self" : Str) = some .local := by decide +kernel
theorem v_Cart_kind_self : Vis (defScope s_Cart_kind) "self" := Or.inl l_Cart_kind_self
theorem l_Crawler_kind_self : (defScope s_Crawler_kind).names.lookup ("self" : Str) = some .local := by decide +kernel
theorem v_Crawler_kind_self : Vis (defScope s_Crawler_kind) "self" := Or.inl l_Crawler_kind_self
theorem l_Runner_kind_self : (defScope s_Runner_kind).names.lookup ("self" : Str) = some .local := by decide +kernel
theorem v_Runner_kind_self : Vis (defScope s_Runner_kind) "self" := Or.inl l_Runner_kind_self
theorem l_carrier_of_kind : (defScope s_carrier_of).names.lookup ("kind" : Str) = some .local := by decide +kernel
theorem v_carrier_of_kind : Vis (defScope s_carrier_of) "kind" := Or.inl l_carrier_of_kind
theorem l_carrier_of_full : (defScope s_carrier_of).names.lookup ("full" : Str) = some .local := by decide +kernel
theorem v_carrier_of_full : Vis (defScope s_carrier_of) "full" := Or.inl l_carrier_of_full
theorem l_Lat__law_script : (defScope s_Lat).names.lookup ("_law_script" : Str) = some .local := by decide +kernel
theorem v_Lat__law_script : Vis (defScope s_Lat) "_law_script" := Or.inl l_Lat__law_script
theorem l_Lat__law_k : (defScope s_Lat).names.lookup ("_law_k" : Str) = some .local := by decide +kernel
theorem v_Lat__law_k : Vis (defScope s_Lat) "_law_k" := Or.inl l_Lat__law_k
theorem l_Lat__law_cell : (defScope s_Lat).names.lookup ("_law_cell" : Str) = some .local := by decide +kernel
theorem v_Lat__law_cell : Vis (defScope s_Lat) "_law_cell" := Or.inl l_Lat__law_cell
theorem l_Lwhole__law_thing : (defScope s_Lwhole).names.lookup ("_law_thing" : Str) = some .local := by decide +kernel
theorem v_Lwhole__law_thing : Vis (defScope s_Lwhole) "_law_thing" := Or.inl l_Lwhole__law_thing
theorem l_Lword__law_error : (defScope s_Lword).names.lookup ("_law_error" : Str) = some .local := by decide +kernel
theorem v_Lword__law_error : Vis (defScope s_Lword) "_law_error" := Or.inl l_Lword__law_error
theorem l_Lword__law_some : (defScope s_Lword).names.lookup ("_law_some" : Str) = some .local := by decide +kernel
theorem v_Lword__law_some : Vis (defScope s_Lword) "_law_some" := Or.inl l_Lword__law_some
theorem l_Lword__law_found : (defScope s_Lword).names.lookup ("_law_found" : Str) = some .local := by decide +kernel
theorem v_Lword__law_found : Vis (defScope s_Lword) "_law_found" := Or.inl l_Lword__law_found
theorem l_Lsaid__law_kind : (defScope s_Lsaid).names.lookup ("_law_kind" : Str) = some .local := by decide +kernel
theorem v_Lsaid__law_kind : Vis (defScope s_Lsaid) "_law_kind" := Or.inl l_Lsaid__law_kind
theorem l_Lsaid__law_full : (defScope s_Lsaid).names.lookup ("_law_full" : Str) = some .local := by decide +kernel
theorem v_Lsaid__law_full : Vis (defScope s_Lsaid) "_law_full" := Or.inl l_Lsaid__law_full
theorem l_Lsaid__law_error : (defScope s_Lsaid).names.lookup ("_law_error" : Str) = some .local := by decide +kernel
theorem v_Lsaid__law_error : Vis (defScope s_Lsaid) "_law_error" := Or.inl l_Lsaid__law_error
theorem l_Lalone__law_kind : (defScope s_Lalone).names.lookup ("_law_kind" : Str) = some .local := by decide +kernel
theorem v_Lalone__law_kind : Vis (defScope s_Lalone) "_law_kind" := Or.inl l_Lalone__law_kind
theorem l_Lalone__law_error : (defScope s_Lalone).names.lookup ("_law_error" : Str) = some .local := by decide +kernel
theorem v_Lalone__law_error : Vis (defScope s_Lalone) "_law_error" := Or.inl l_Lalone__law_error
theorem l_Lright__law_one : (defScope s_Lright).names.lookup ("_law_one" : Str) = some .local := by decide +kernel
theorem v_Lright__law_one : Vis (defScope s_Lright) "_law_one" := Or.inl l_Lright__law_one
theorem l_Lright__law_kind : (defScope s_Lright).names.lookup ("_law_kind" : Str) = some .local := by decide +kernel
theorem v_Lright__law_kind : Vis (defScope s_Lright) "_law_kind" := Or.inl l_Lright__law_kind
theorem l_Lright__law_full : (defScope s_Lright).names.lookup ("_law_full" : Str) = some .local := by decide +kernel
theorem v_Lright__law_full : Vis (defScope s_Lright) "_law_full" := Or.inl l_Lright__law_full
theorem l_Lright__law_told : (defScope s_Lright).names.lookup ("_law_told" : Str) = some .local := by decide +kernel
theorem v_Lright__law_told : Vis (defScope s_Lright) "_law_told" := Or.inl l_Lright__law_told
theorem l_law__law_script : (defScope s_law).names.lookup ("_law_script" : Str) = some .local := by decide +kernel
theorem v_law__law_script : Vis (defScope s_law) "_law_script" := Or.inl l_law__law_script
theorem l_law__law_k : (defScope s_law).names.lookup ("_law_k" : Str) = some .local := by decide +kernel
theorem v_law__law_k : Vis (defScope s_law) "_law_k" := Or.inl l_law__law_k
theorem l_law__law_cell : (defScope s_law).names.lookup ("_law_cell" : Str) = some .local := by decide +kernel
theorem v_law__law_cell : Vis (defScope s_law) "_law_cell" := Or.inl l_law__law_cell
theorem l_law__law_kind : (defScope s_law).names.lookup ("_law_kind" : Str) = some .local := by decide +kernel
theorem v_law__law_kind : Vis (defScope s_law) "_law_kind" := Or.inl l_law__law_kind
theorem l_law__law_full : (defScope s_law).names.lookup ("_law_full" : Str) = some .local := by decide +kernel
theorem v_law__law_full : Vis (defScope s_law) "_law_full" := Or.inl l_law__law_full
theorem l_law__law_wrong : (defScope s_law).names.lookup ("_law_wrong" : Str) = some .local := by decide +kernel
theorem v_law__law_wrong : Vis (defScope s_law) "_law_wrong" := Or.inl l_law__law_wrong
theorem l_law__law_bad : (defScope s_law).names.lookup ("_law_bad" : Str) = some .local := by decide +kernel
theorem v_law__law_bad : Vis (defScope s_law) "_law_bad" := Or.inl l_law__law_bad
theorem l_law__law_odd : (defScope s_law).names.lookup ("_law_odd" : Str) = some .local := by decide +kernel
theorem v_law__law_odd : Vis (defScope s_law) "_law_odd" := Or.inl l_law__law_odd
theorem l_law__law_worse : (defScope s_law).names.lookup ("_law_worse" : Str) = some .local := by decide +kernel
theorem v_law__law_worse : Vis (defScope s_law) "_law_worse" := Or.inl l_law__law_worse
theorem g_Lalone_FloorError : (defScope s_Lalone).names.lookup ("FloorError" : Str) = some .globalImplicit := by decide +kernel
theorem g_Lalone__law_word : (defScope s_Lalone).names.lookup ("_law_word" : Str) = some .globalImplicit := by decide +kernel
theorem g_Lalone_carrier_of : (defScope s_Lalone).names.lookup ("carrier_of" : Str) = some .globalImplicit := by decide +kernel
theorem g_Lat_len : (defScope s_Lat).names.lookup ("len" : Str) = some .globalImplicit := by decide +kernel
theorem g_Lright_Carrier : (defScope s_Lright).names.lookup ("Carrier" : Str) = some .globalImplicit := by decide +kernel
theorem g_Lright_Cart : (defScope s_Lright).names.lookup ("Cart" : Str) = some .globalImplicit := by decide +kernel
theorem g_Lright_Crawler : (defScope s_Lright).names.lookup ("Crawler" : Str) = some .globalImplicit := by decide +kernel
theorem g_Lright_Runner : (defScope s_Lright).names.lookup ("Runner" : Str) = some .globalImplicit := by decide +kernel
theorem g_Lright__law_whole : (defScope s_Lright).names.lookup ("_law_whole" : Str) = some .globalImplicit := by decide +kernel
theorem g_Lright_isinstance : (defScope s_Lright).names.lookup ("isinstance" : Str) = some .globalImplicit := by decide +kernel
theorem g_Lsaid_FloorError : (defScope s_Lsaid).names.lookup ("FloorError" : Str) = some .globalImplicit := by decide +kernel
theorem g_Lsaid__law_word : (defScope s_Lsaid).names.lookup ("_law_word" : Str) = some .globalImplicit := by decide +kernel
theorem g_Lsaid_carrier_of : (defScope s_Lsaid).names.lookup ("carrier_of" : Str) = some .globalImplicit := by decide +kernel
theorem g_Lwhole_bool : (defScope s_Lwhole).names.lookup ("bool" : Str) = some .globalImplicit := by decide +kernel
theorem g_Lwhole_int : (defScope s_Lwhole).names.lookup ("int" : Str) = some .globalImplicit := by decide +kernel
theorem g_Lwhole_isinstance : (defScope s_Lwhole).names.lookup ("isinstance" : Str) = some .globalImplicit := by decide +kernel
theorem g_Lword_BadCell : (defScope s_Lword).names.lookup ("BadCell" : Str) = some .globalImplicit := by decide +kernel
theorem g_Lword_BadCharge : (defScope s_Lword).names.lookup ("BadCharge" : Str) = some .globalImplicit := by decide +kernel
theorem g_Lword_BadFloor : (defScope s_Lword).names.lookup ("BadFloor" : Str) = some .globalImplicit := by decide +kernel
theorem g_Lword_BadKind : (defScope s_Lword).names.lookup ("BadKind" : Str) = some .globalImplicit := by decide +kernel
theorem g_Lword_BadStops : (defScope s_Lword).names.lookup ("BadStops" : Str) = some .globalImplicit := by decide +kernel
theorem g_Lword_BadWay : (defScope s_Lword).names.lookup ("BadWay" : Str) = some .globalImplicit := by decide +kernel
theorem g_Lword_Busy : (defScope s_Lword).names.lookup ("Busy" : Str) = some .globalImplicit := by decide +kernel
theorem g_Lword_Closed : (defScope s_Lword).names.lookup ("Closed" : Str) = some .globalImplicit := by decide +kernel
theorem g_Lword_Empty : (defScope s_Lword).names.lookup ("Empty" : Str) = some .globalImplicit := by decide +kernel
theorem g_Lword_FloorError : (defScope s_Lword).names.lookup ("FloorError" : Str) = some .globalImplicit := by decide +kernel
theorem g_Lword_Jammed : (defScope s_Lword).names.lookup ("Jammed" : Str) = some .globalImplicit := by decide +kernel
theorem g_Lword_Meets : (defScope s_Lword).names.lookup ("Meets" : Str) = some .globalImplicit := by decide +kernel
theorem g_Lword_NoCarrier : (defScope s_Lword).names.lookup ("NoCarrier" : Str) = some .globalImplicit := by decide +kernel
theorem g_Lword_NoReserve : (defScope s_Lword).names.lookup ("NoReserve" : Str) = some .globalImplicit := by decide +kernel
theorem g_Lword_NoTask : (defScope s_Lword).names.lookup ("NoTask" : Str) = some .globalImplicit := by decide +kernel
theorem g_Lword_Taken : (defScope s_Lword).names.lookup ("Taken" : Str) = some .globalImplicit := by decide +kernel
theorem g_Lword_ValueError : (defScope s_Lword).names.lookup ("ValueError" : Str) = some .globalImplicit := by decide +kernel
theorem g_Lword_isinstance : (defScope s_Lword).names.lookup ("isinstance" : Str) = some .globalImplicit := by decide +kernel
theorem g_carrier_of_BadCharge : (defScope s_carrier_of).names.lookup ("BadCharge" : Str) = some .globalImplicit := by decide +kernel
theorem g_carrier_of_BadKind : (defScope s_carrier_of).names.lookup ("BadKind" : Str) = some .globalImplicit := by decide +kernel
theorem g_carrier_of_Cart : (defScope s_carrier_of).names.lookup ("Cart" : Str) = some .globalImplicit := by decide +kernel
theorem g_carrier_of_Crawler : (defScope s_carrier_of).names.lookup ("Crawler" : Str) = some .globalImplicit := by decide +kernel
theorem g_carrier_of_KINDS : (defScope s_carrier_of).names.lookup ("KINDS" : Str) = some .globalImplicit := by decide +kernel
theorem g_carrier_of_MOST_FULL : (defScope s_carrier_of).names.lookup ("MOST_FULL" : Str) = some .globalImplicit := by decide +kernel
theorem g_carrier_of_Runner : (defScope s_carrier_of).names.lookup ("Runner" : Str) = some .globalImplicit := by decide +kernel
theorem g_carrier_of_is_among : (defScope s_carrier_of).names.lookup ("is_among" : Str) = some .globalImplicit := by decide +kernel
theorem g_carrier_of_isinstance : (defScope s_carrier_of).names.lookup ("isinstance" : Str) = some .globalImplicit := by decide +kernel
theorem g_carrier_of_str : (defScope s_carrier_of).names.lookup ("str" : Str) = some .globalImplicit := by decide +kernel
theorem g_is_among_is_whole : (defScope s_is_among).names.lookup ("is_whole" : Str) = some .globalImplicit := by decide +kernel
theorem g_is_whole_bool : (defScope s_is_whole).names.lookup ("bool" : Str) = some .globalImplicit := by decide +kernel
theorem g_is_whole_int : (defScope s_is_whole).names.lookup ("int" : Str) = some .globalImplicit := by decide +kernel
theorem g_is_whole_isinstance : (defScope s_is_whole).names.lookup ("isinstance" : Str) = some .globalImplicit := by decide +kernel
theorem g_law__law_alone : (defScope s_law).names.lookup ("_law_alone" : Str) = some .globalImplicit := by decide +kernel
theorem g_law__law_at : (defScope s_law).names.lookup ("_law_at" : Str) = some .globalImplicit := by decide +kernel
theorem g_law__law_right : (defScope s_law).names.lookup ("_law_right" : Str) = some .globalImplicit := by decide +kernel
theorem g_law__law_said : (defScope s_law).names.lookup ("_law_said" : Str) = some .globalImplicit := by decide +kernel
theorem g_law_carrier_of : (defScope s_law).names.lookup ("carrier_of" : Str) = some .globalImplicit := by decide +kernel
theorem g_law_range : (defScope s_law).names.lookup ("range" : Str) = some .globalImplicit := by decide +kernel
theorem sc_is_whole : FnScope ["thing"] ["thing"] (defScope s_is_whole) := ⟨rfl, rfl, rfl, by decide +kernel, rfl, by decide +kernel, by decide +kernel⟩
set_option maxHeartbeats 4000000 in
local macro_rules | `(tactic| walk_at "RD") => `(tactic| simp only [cxKm, cxKs, cxKt, tNever, tFor_eq, iRng1, iRng2, gTup, gTupL, gCons, gNil, rCat, rJoin, tTryAs, onlyRet, tMethV, rUpper, tSeq, tCallX, tMethX, tMakeX, tRaise, noW, tAsg, tOp, tUn, tVar, tC, rI0, rI, rU, tTest, tIfS, tNext, tRet, tRetN, tDrop, gName, tCB, tCons, tNil, tAndV, tOrV, tNotV, tAnd, tOr, tNot, tB, tIf, tChain, tCall, tBM, tBM0, tLst, tTup, tNoPart, tPart, tSlS, tSl, tBreak, tCont, rSlA, rSlL, rPopAt, rIn, rIxL, rIxT, rIxS, rEq, rNe, scal, rAppend, rPop, rIndex, tFld, sFld, tMeth, tMake, tDNewK, gSub, rSetL, tJoinRev, tComp, sComp, capσ, iStr, iList, iTup, rEqD, cxK, cxA, cxKc, cxAc, L2.start, List.map_cons, List.map_nil, List.length_cons, List.length_nil, List.replicate_succ, List.replicate_zero, List.cons_append, List.nil_append, List.append_nil, Nat.reduceAdd, Nat.reduceSub, List.set_cons_zero, List.set_cons_succ, List.getElem?_cons_zero, List.getElem?_cons_succ, Option.getD_some, Option.getD_none, Option.some.injEq, V.int.injEq, V.ref.injEq, V.bl.injEq, V.str.injEq, V.ty.injEq, exists_eq_left', exists_eq_left, exists_and_left, and_assoc, List.cons.injEq, and_true, true_and, decide_eq_true_eq, Bool.not_eq_true', decide_eq_false_iff_not, Bool.false_eq_true, if_false, if_true, reduceIte, Bool.not_true, Bool.not_false, beq_self_eq_true])
theorem ok_is_whole {fd : FuncData} (F : Fun K "is_whole" "is_whole" s_is_whole ad.is_whole fd) (T : Txt K mg ad) : FnOk P w K mg base CX0 1 ad.is_whole fd ["thing"] (spWhole K) := by
  refine F.ok sc_is_whole (fun vs H Q E h => ?_) (fun cdv A outer s H vs Q E HR h => ?_)
  · obtain ⟨x, rfl, _⟩ := h
    rfl
  · obtain ⟨x, rfl, ty, hq⟩ := h
    have ND := sc_is_whole.nd
    have HU0 := HR.units0
    have HU := HR.units
    have hA := HR.hd
    have hz : (100000 : Nat) ≤ sizeLine := by rw [sizeLine_eq]; decide
    refine ⟨_, (pss_one (ps_ret (pe_and (pe_callB call_isinst (gl_of g_is_whole_isinstance) T.b_isinstance PyProof.Rows.Boot.«isinstance» (pa_cons (pe_var (i := 0) (x := "thing") rfl (vis_of v_is_whole_thing) d_thing e_thing) (pa_cons (pe_bltn (v := .ty "int") (gl_of g_is_whole_int) T.b_int PyProof.Rows.Boot.«int» rfl (hn := n_int) (hd := d_int)) pa_nil (stp rfl)) (stp rfl)) (hn := n_isinstance) (hdb := d_isinstance) (he := stp rfl) (hpl := anp rfl)) (pe_one (pe_not (pe_callB call_isinst (gl_of g_is_whole_isinstance) T.b_isinstance PyProof.Rows.Boot.«isinstance» (pa_cons (pe_var (i := 0) (x := "thing") rfl (vis_of v_is_whole_thing) d_thing e_thing) (pa_cons (pe_bltn (v := .ty "bool") (gl_of g_is_whole_bool) T.b_bool PyProof.Rows.Boot.«bool» rfl (hn := n_bool) (hd := d_bool)) pa_nil (stp rfl)) (stp rfl)) (hn := n_isinstance) (hdb := d_isinstance) (he := stp rfl) (hpl := anp rfl))))))), ?_⟩
    obtain ⟨n, ty⟩ := ty
    have e1 := kit_int ty
    have e2 := kit_bool ty
    walk_at "RD"
    refine ⟨_, ty, _, e1, ?_⟩
    cases hb : isIB x with
    | true =>
      rw [if_pos rfl]
      refine ⟨_, ty, _, e2, ?_⟩
      cases x <;> simp_all [isI, isB, isIB]
    | false =>
      rw [if_neg (by decide)]
      cases x <;> simp_all [isI, isB, isIB]
theorem sc_is_among : FnScope ["thing", "least", "most"] ["thing", "least", "most"] (defScope s_is_among) := ⟨rfl, rfl, rfl, by decide +kernel, rfl, by decide +kernel, by decide +kernel⟩
set_option maxHeartbeats 4000000 in
theorem ok_is_among {fd : FuncData} (F : Fun K "is_among" "is_among" s_is_among ad.is_among fd) (T : Txt K mg ad) {fd_is_whole : FuncData} (B_is_whole : Binds K fd_is_whole ["thing"] []) (G_is_whole : FnOk P w K mg base CX0 1 ad.is_whole fd_is_whole ["thing"] (spWhole K)) : FnOk P w K mg base CX0 2 ad.is_among fd ["thing", "least", "most"] (spAmong K) := by
  refine F.ok sc_is_among (fun vs H Q E h => ?_) (fun cdv A outer s H vs Q E HR h => ?_)
  · obtain ⟨x, lo, hi, rfl, _⟩ := h
    rfl
  · obtain ⟨x, lo, hi, rfl, ty, hq⟩ := h
    have ND := sc_is_among.nd
    have HU0 := HR.units0
    have HU := HR.units
    have hA := HR.hd
    have hz : (100000 : Nat) ≤ sizeLine := by rw [sizeLine_eq]; decide
    refine ⟨_, (pss_one (ps_ret (pe_and (pe_call G_is_whole (HR.mono (by decide)) (gl_of g_is_among_is_whole) T.mg_is_whole T.k_is_whole B_is_whole .nil pass0 (pa_cons (pe_var (i := 0) (x := "thing") rfl (vis_of v_is_among_thing) d_thing e_thing) pa_nil (stp rfl)) (hdb := d_is_whole) (he := stp rfl) (hpl := anp rfl)) (pe_one (pe_chain op_le op_le (pe_var (i := 1) (x := "least") rfl (vis_of v_is_among_least) d_least e_least) (pe_var (i := 0) (x := "thing") rfl (vis_of v_is_among_thing) d_thing e_thing) (pe_var (i := 2) (x := "most") rfl (vis_of v_is_among_most) d_most e_most)))))), ?_⟩
    walk_at "RD"
    refine ⟨x, rfl, ty, ?_⟩
    walk_at "RD"
    cases x <;> simp_all [isI, amg]
    split <;> simp_all
theorem sc_Carrier_init : FnScope ["self", "full"] ["self", "full"] (defScope s_Carrier_init) := ⟨rfl, rfl, rfl, by decide +kernel, rfl, by decide +kernel, by decide +kernel⟩
set_option maxHeartbeats 4000000 in
theorem ok_Carrier_init {fd : FuncData} (F : Fun K "__init__" "Carrier.__init__" s_Carrier_init ad.Carrier_init fd) (T : Txt K mg ad) : FnOk P w K mg base CX0 1 ad.Carrier_init fd ["self", "full"] (spInitA ad) := by
  refine F.ok sc_Carrier_init (fun vs H Q E h => ?_) (fun cdv A outer s H vs Q E HR h => ?_)
  · obtain ⟨p, dx, n, i, rfl, _⟩ := h
    rfl
  · obtain ⟨p, dx, n, i, rfl, hp, hq⟩ := h
    have ND := sc_Carrier_init.nd
    have HU0 := HR.units0
    have HU := HR.units
    have hA := HR.hd
    have hz : (100000 : Nat) ≤ sizeLine := by rw [sizeLine_eq]; decide
    refine ⟨_, (pss_one (ps_fld (pe_var (i := 0) (x := "self") rfl (vis_of v_Carrier_init_self) d_self e_self) (pe_var (i := 1) (x := "full") rfl (vis_of v_Carrier_init_full) d_full e_full) rfl)), ?_⟩
    walk_at "RD"
    exact ⟨_, _, _, hp, cls_of T i, nof_of T i, by simp, hq⟩
theorem sc_Cart_kind : FnScope ["self"] ["self"] (defScope s_Cart_kind) := ⟨rfl, rfl, rfl, by decide +kernel, rfl, by decide +kernel, by decide +kernel⟩
set_option maxHeartbeats 4000000 in
theorem ok_Cart_kind {fd : FuncData} (F : Fun K "kind" "Cart.kind" s_Cart_kind ad.Cart_kind fd) (T : Txt K mg ad) : FnOk P w K mg base CX0 1 ad.Cart_kind fd ["self"] (spKind "cart") := by
  refine F.ok sc_Cart_kind (fun vs H Q E h => ?_) (fun cdv A outer s H vs Q E HR h => ?_)
  · obtain ⟨x, rfl, _⟩ := h
    rfl
  · obtain ⟨x, rfl, hq⟩ := h
    have ND := sc_Cart_kind.nd
    have HU0 := HR.units0
    have HU := HR.units
    have hA := HR.hd
    have hz : (100000 : Nat) ≤ sizeLine := by rw [sizeLine_eq]; decide
    refine ⟨_, (pss_one (ps_ret pe_str)), ?_⟩
    walk_at "RD"
    exact hq
theorem sc_Crawler_kind : FnScope ["self"] ["self"] (defScope s_Crawler_kind) := ⟨rfl, rfl, rfl, by decide +kernel, rfl, by decide +kernel, by decide +kernel⟩
set_option maxHeartbeats 4000000 in
theorem ok_Crawler_kind {fd : FuncData} (F : Fun K "kind" "Crawler.kind" s_Crawler_kind ad.Crawler_kind fd) (T : Txt K mg ad) : FnOk P w K mg base CX0 1 ad.Crawler_kind fd ["self"] (spKind "crawler") := by
  refine F.ok sc_Crawler_kind (fun vs H Q E h => ?_) (fun cdv A outer s H vs Q E HR h => ?_)
  · obtain ⟨x, rfl, _⟩ := h
    rfl
  · obtain ⟨x, rfl, hq⟩ := h
    have ND := sc_Crawler_kind.nd
    have HU0 := HR.units0
    have HU := HR.units
    have hA := HR.hd
    have hz : (100000 : Nat) ≤ sizeLine := by rw [sizeLine_eq]; decide
    refine ⟨_, (pss_one (ps_ret pe_str)), ?_⟩
    walk_at "RD"
    exact hq
theorem sc_Runner_kind : FnScope ["self"] ["self"] (defScope s_Runner_kind) := ⟨rfl, rfl, rfl, by decide +kernel, rfl, by decide +kernel, by decide +kernel⟩
set_option maxHeartbeats 4000000 in
theorem ok_Runner_kind {fd : FuncData} (F : Fun K "kind" "Runner.kind" s_Runner_kind ad.Runner_kind fd) (T : Txt K mg ad) : FnOk P w K mg base CX0 1 ad.Runner_kind fd ["self"] (spKind "runner") := by
  refine F.ok sc_Runner_kind (fun vs H Q E h => ?_) (fun cdv A outer s H vs Q E HR h => ?_)
  · obtain ⟨x, rfl, _⟩ := h
    rfl
  · obtain ⟨x, rfl, hq⟩ := h
    have ND := sc_Runner_kind.nd
    have HU0 := HR.units0
    have HU := HR.units
    have hA := HR.hd
    have hz : (100000 : Nat) ≤ sizeLine := by rw [sizeLine_eq]; decide
    refine ⟨_, (pss_one (ps_ret pe_str)), ?_⟩
    walk_at "RD"
    exact hq
theorem sc_carrier_of : FnScope ["kind", "full"] ["kind", "full"] (defScope s_carrier_of) := ⟨rfl, rfl, rfl, by decide +kernel, rfl, by decide +kernel, by decide +kernel⟩
set_option maxHeartbeats 4000000 in
theorem ok_carrier_of {fd : FuncData} {its : Array Value} (F : FunD K "carrier_of" "carrier_of" s_carrier_of ad.carrier_of fd its) (T : Txt K mg ad) {fd_is_among : FuncData} (B_is_among : Binds K fd_is_among ["thing", "least", "most"] []) (G_is_among : FnOk P w K mg base CX0 2 ad.is_among fd_is_among ["thing", "least", "most"] (spAmong K)) {fd_Carrier_init : FuncData} (B_Carrier_init : Binds K fd_Carrier_init ["self", "full"] []) (G_Carrier_init : FnOk P w K mg base CX0 1 ad.Carrier_init fd_Carrier_init ["self", "full"] (spInitA ad)) : FnOk P w K mg base (CXE P w) 3 ad.carrier_of fd ["kind", "full"] (spMake ad K) := by
  refine F.okR sc_carrier_of (fun vs H Q E h => ?_) (fun cdv A outer s H vs Q E HR h => ?_)
  · obtain ⟨k, f, rfl, _⟩ := h
    rfl
  · obtain ⟨k, f, rfl, hq⟩ := h
    have ND := sc_carrier_of.nd
    have HU0 := HR.units0
    have HU := HR.units
    have hA := HR.hd
    have hz : (100000 : Nat) ≤ sizeLine := by rw [sizeLine_eq]; decide
    obtain ⟨u_KINDS, c_KINDS, r_KINDS⟩ := T.c_KINDS
    obtain ⟨u_MOST_FULL, c_MOST_FULL, r_MOST_FULL⟩ := T.c_MOST_FULL
    refine ⟨_, (pss_cons (ps_if (PW.pt (pw_or (pt_not (pt_val (pe_callB call_isinst (gl_of g_carrier_of_isinstance) T.b_isinstance PyProof.Rows.Boot.«isinstance» (pa_cons (pe_var (i := 0) (x := "kind") rfl (vis_of v_carrier_of_kind) d_kind e_kind) (pa_cons (pe_bltn (v := .ty "str") (gl_of g_carrier_of_str) T.b_str PyProof.Rows.Boot.«str» rfl (hn := n_str) (hd := d_str)) pa_nil (stp rfl)) (stp rfl)) (hn := n_isinstance) (hdb := d_isinstance) (he := stp rfl) (hpl := anp rfl)))) (pw_or1 (pt_cmpR op_notIn_seq (pe_var (i := 0) (x := "kind") rfl (vis_of v_carrier_of_kind) d_kind e_kind) (pe_glob (v := .ref ad.K_KINDS) (gl_of g_carrier_of_KINDS) c_KINDS r_KINDS (hd := d_KINDS)) (by with_unfolding_all rfl)))))
 (pss_one (ps_raise xw_fn rfl (gl_of g_carrier_of_BadKind) T.mg_BadKind T.er_BadKind (pa_cons pe_str pa_nil (stp rfl)) (hdb := d_BadKind) (he := stp rfl) (hpl := anp rfl)))
 pss_nil)
 (pss_cons (ps_if (pt_not (pt_val (pe_call G_is_among (HR.mono (by decide)) (gl_of g_carrier_of_is_among) T.mg_is_among T.k_is_among B_is_among .nil pass0 (pa_cons (pe_var (i := 1) (x := "full") rfl (vis_of v_carrier_of_full) d_full e_full) (pa_cons pe_int (pa_cons (pe_glob (v := V.int 60) (gl_of g_carrier_of_MOST_FULL) c_MOST_FULL r_MOST_FULL (hd := d_MOST_FULL)) pa_nil (stp rfl)) (stp rfl)) (stp rfl)) (hdb := d_is_among) (he := stp rfl) (hpl := anp rfl))))
 (pss_one (ps_raise xw_fn rfl (gl_of g_carrier_of_BadCharge) T.mg_BadCharge T.er_BadCharge (pa_cons pe_str pa_nil (stp rfl)) (hdb := d_BadCharge) (he := stp rfl) (hpl := anp rfl)))
 pss_nil)
 (pss_cons (ps_if (pt_cmpR op_eq (pe_var (i := 0) (x := "kind") rfl (vis_of v_carrier_of_kind) d_kind e_kind) pe_str (nomark _))
 (pss_one (ps_ret (pe_make T.mk_Cart G_Carrier_init (HR.mono (by decide)) (gl_of g_carrier_of_Cart) T.mg_Cart B_Carrier_init .nil pass0 (pa_cons (pe_var (i := 1) (x := "full") rfl (vis_of v_carrier_of_full) d_full e_full) pa_nil (stp rfl)) (hdb := d_Cart) (he := stp rfl) (hpl := anp rfl))))
 pss_nil)
 (pss_cons (ps_if (pt_cmpR op_eq (pe_var (i := 0) (x := "kind") rfl (vis_of v_carrier_of_kind) d_kind e_kind) pe_str (nomark _))
 (pss_one (ps_ret (pe_make T.mk_Crawler G_Carrier_init (HR.mono (by decide)) (gl_of g_carrier_of_Crawler) T.mg_Crawler B_Carrier_init .nil pass0 (pa_cons (pe_var (i := 1) (x := "full") rfl (vis_of v_carrier_of_full) d_full e_full) pa_nil (stp rfl)) (hdb := d_Crawler) (he := stp rfl) (hpl := anp rfl))))
 pss_nil)
 (pss_one (ps_ret (pe_make T.mk_Runner G_Carrier_init (HR.mono (by decide)) (gl_of g_carrier_of_Runner) T.mg_Runner B_Carrier_init .nil pass0 (pa_cons (pe_var (i := 1) (x := "full") rfl (vis_of v_carrier_of_full) d_full e_full) pa_nil (stp rfl)) (hdb := d_Runner) (he := stp rfl) (hpl := anp rfl)))))))), ?_⟩
    rcases hq with ⟨nk, hE⟩ | ⟨x, hx, rfl, ty, ha, hE⟩ | ⟨i, x, n, hi, rfl, rfl, n0, n1, hq⟩
    · walk_at "RD"
      rcases nk with ⟨x, rfl, hx⟩ | ⟨⟨n, ty⟩, hs⟩
      · refine ⟨_, .str x, _, kit_str', ?_⟩
        rw [if_neg (by decide)]
        refine ⟨_, .inr (T.kt_KINDS H), rfl, rfl, ?_⟩
        rw [in_kinds, decide_eq_false hx, if_pos rfl]
        exact ⟨by omega, hE⟩
      · refine ⟨_, ty, _, kit_str ty hs, ?_⟩
        rw [if_pos rfl]
        exact ⟨by omega, hE⟩
    · walk_at "RD"
      refine ⟨_, .str x, _, kit_str', ?_⟩
      rw [if_neg (by decide)]
      refine ⟨_, .inr (T.kt_KINDS H), rfl, rfl, ?_⟩
      rw [in_kinds, decide_eq_true hx, if_neg (by decide)]
      refine ⟨f, 1, 60, rfl, ty, false, by rw [ha], ?_⟩
      rw [if_pos rfl]
      exact ⟨by omega, hE⟩
    · walk_at "RD"
      have hx : x ∈ kinds := List.mem_of_getElem? hi
      refine ⟨_, .str x, _, kit_str', ?_⟩
      rw [if_neg (by decide)]
      refine ⟨_, .inr (T.kt_KINDS H), rfl, rfl, ?_⟩
      rw [in_kinds, decide_eq_true hx, if_neg (by decide)]
      refine ⟨.int n, 1, 60, rfl, ⟨_, .int n⟩, true, by simp [amg, n0, n1], ?_⟩
      rw [if_neg (by decide)]
      have mk : ∀ (p dx : Addr), H p = none → H dx = none → dx ≠ p → spInitA ad [V.ref p, V.int n] (upd (upd H dx (HO.own p)) p (HO.ins (clsOf ad i) dx [])) (fun v H2 => v = V.non ∧ Q (V.ref p) H2) E0 := fun p dx np nd nn =>
        ⟨p, dx, n, i, rfl, upd_same, rfl, hq p _ (fun b o e => by rw [upd_ne (ne_of_none e np), upd_ne (ne_of_none e np), upd_ne (ne_of_none e nd)]; exact e) np ⟨dx, upd_same⟩⟩
      match i, hi, mk with
      | 0, hi, mk => cases hi; rw [if_pos rfl]; exact mk
      | 1, hi, mk => cases hi; rw [if_neg (by decide +kernel), if_pos rfl]; exact mk
      | 2, hi, mk => cases hi; rw [if_neg (by decide +kernel), if_neg (by decide +kernel)]; exact mk
      | (i + 3), hi, mk => simp [kinds] at hi
theorem sc_Lat : FnScope ["_law_script", "_law_k", "_law_cell"] ["_law_script", "_law_k"] (defScope s_Lat) := ⟨rfl, rfl, rfl, by decide +kernel, rfl, by decide +kernel, by decide +kernel⟩
set_option maxHeartbeats 4000000 in
theorem ok_Lat {fd : FuncData} (F : Fun K "_law_at" "_law_at" s_Lat ad.Lat fd) (T : Txt K mg ad) : FnOk P w K mg base CX0 1 ad.Lat fd ["_law_script", "_law_k"] (spAt K) := by
  refine F.ok sc_Lat (fun vs H Q E h => ?_) (fun cdv A outer s H vs Q E HR h => ?_)
  · obtain ⟨a, ns, k, rfl, _⟩ := h
    rfl
  · obtain ⟨a, ns, k, rfl, hS, hl, h0, h1, hq⟩ := h
    have ND := sc_Lat.nd
    have HU0 := HR.units0
    have HU := HR.units
    have hA := HR.hd
    have hz : (100000 : Nat) ≤ sizeLine := by rw [sizeLine_eq]; decide
    refine ⟨_, (pss_cons (ps_set (i := 2) ND rfl (loc_of (Or.inl l_Lat__law_cell)) pe_int)
 (pss_cons (ps_if (pt_cmpR op_lt (pe_var (i := 1) (x := "_law_k") rfl (vis_of v_Lat__law_k) d__law_k e__law_k) (pe_callB call_len_seq (gl_of g_Lat_len) T.b_len PyProof.Rows.Boot.«len» (pa_cons (pe_var (i := 0) (x := "_law_script") rfl (vis_of v_Lat__law_script) d__law_script e__law_script) pa_nil (stp rfl)) (hn := n_len) (hdb := d_len) (he := stp rfl) (hpl := anp rfl)) (nomark _))
 (pss_one (ps_set (i := 2) ND rfl (loc_of (Or.inl l_Lat__law_cell)) (pe_ix ix_list (pe_var (i := 0) (x := "_law_script") rfl (vis_of v_Lat__law_script) d__law_script e__law_script) (pe_var (i := 1) (x := "_law_k") rfl (vis_of v_Lat__law_k) d__law_k e__law_k) (fun _ _ => rfl))))
 pss_nil)
 (pss_one (ps_ret (pe_op op_mod (pe_op op_mul (pe_op op_add (pe_op op_add (pe_op op_mod (pe_var (i := 2) (x := "_law_cell") rfl (vis_of v_Lat__law_cell) d__law_cell e__law_cell) pe_int) (pe_op op_mul (pe_op op_mul pe_int (pe_var (i := 1) (x := "_law_k") rfl (vis_of v_Lat__law_k) d__law_k e__law_k)) (pe_var (i := 1) (x := "_law_k") rfl (vis_of v_Lat__law_k) d__law_k e__law_k))) pe_int) (pe_op op_add pe_int (pe_op op_mul pe_int (pe_var (i := 1) (x := "_law_k") rfl (vis_of v_Lat__law_k) d__law_k e__law_k)))) pe_int))))), ?_⟩
    walk_at "RD"
    have fin : ∀ i : Int, 0 < (1000000007 : Int) ∧ CMul 7919 k ∧ CMul (7919 * k) k ∧ CMul 2 k ∧ CMul (i % 1000000007 + 7919 * k * k + 31) (48271 + 2 * k) ∧ 0 < (2147483647 : Int) ∧ Q (V.int ((i % 1000000007 + 7919 * k * k + 31) * (48271 + 2 * k) % 2147483647)) H := fun i =>
      ⟨by decide, (by first | (left; constructor <;> omega) | (right; constructor <;> omega)), (by first | (left; constructor <;> omega) | (right; constructor <;> omega)), (by first | (left; constructor <;> omega) | (right; constructor <;> omega)), (by first | (left; constructor <;> omega) | (right; constructor <;> omega)), by decide, hq _ (Int.emod_nonneg _ (by decide)) (Int.emod_lt_of_pos _ (by decide))⟩
    refine ⟨ns.map V.int, .inl hS, ?_⟩
    split
    · rename_i hk
      have hk' : k.toNat < ns.length := by simp at hk; omega
      obtain ⟨j, rfl⟩ := Int.eq_ofNat_of_zero_le h0
      have hj : j < ns.length := by simpa using hk'
      exact ⟨_, hS, .int ns[j], atI_nat (by simp [hj]), _, rfl, fin _⟩
    · exact fin 0
theorem sc_Lwhole : FnScope ["_law_thing"] ["_law_thing"] (defScope s_Lwhole) := ⟨rfl, rfl, rfl, by decide +kernel, rfl, by decide +kernel, by decide +kernel⟩
set_option maxHeartbeats 4000000 in
theorem ok_Lwhole {fd : FuncData} (F : Fun K "_law_whole" "_law_whole" s_Lwhole ad.Lwhole fd) (T : Txt K mg ad) : FnOk P w K mg base CX0 1 ad.Lwhole fd ["_law_thing"] (spWhole K) := by
  refine F.ok sc_Lwhole (fun vs H Q E h => ?_) (fun cdv A outer s H vs Q E HR h => ?_)
  · obtain ⟨x, rfl, _⟩ := h
    rfl
  · obtain ⟨x, rfl, ty, hq⟩ := h
    have ND := sc_Lwhole.nd
    have HU0 := HR.units0
    have HU := HR.units
    have hA := HR.hd
    have hz : (100000 : Nat) ≤ sizeLine := by rw [sizeLine_eq]; decide
    refine ⟨_, (pss_one (ps_ret (pe_and (pe_callB call_isinst (gl_of g_Lwhole_isinstance) T.b_isinstance PyProof.Rows.Boot.«isinstance» (pa_cons (pe_var (i := 0) (x := "_law_thing") rfl (vis_of v_Lwhole__law_thing) d__law_thing e__law_thing) (pa_cons (pe_bltn (v := .ty "int") (gl_of g_Lwhole_int) T.b_int PyProof.Rows.Boot.«int» rfl (hn := n_int) (hd := d_int)) pa_nil (stp rfl)) (stp rfl)) (hn := n_isinstance) (hdb := d_isinstance) (he := stp rfl) (hpl := anp rfl)) (pe_one (pe_not (pe_callB call_isinst (gl_of g_Lwhole_isinstance) T.b_isinstance PyProof.Rows.Boot.«isinstance» (pa_cons (pe_var (i := 0) (x := "_law_thing") rfl (vis_of v_Lwhole__law_thing) d__law_thing e__law_thing) (pa_cons (pe_bltn (v := .ty "bool") (gl_of g_Lwhole_bool) T.b_bool PyProof.Rows.Boot.«bool» rfl (hn := n_bool) (hd := d_bool)) pa_nil (stp rfl)) (stp rfl)) (hn := n_isinstance) (hdb := d_isinstance) (he := stp rfl) (hpl := anp rfl))))))), ?_⟩
    obtain ⟨n, ty⟩ := ty
    have e1 := kit_int ty
    have e2 := kit_bool ty
    walk_at "RD"
    refine ⟨_, ty, _, e1, ?_⟩
    cases hb : isIB x with
    | true =>
      rw [if_pos rfl]
      refine ⟨_, ty, _, e2, ?_⟩
      cases x <;> simp_all [isI, isB, isIB]
    | false =>
      rw [if_neg (by decide)]
      cases x <;> simp_all [isI, isB, isIB]
theorem sc_Lword : FnScope ["_law_error", "_law_some", "_law_found"] ["_law_error"] (defScope s_Lword) := ⟨rfl, rfl, rfl, by decide +kernel, rfl, by decide +kernel, by decide +kernel⟩
set_option maxHeartbeats 4000000 in
theorem okM_Lword {fd : FuncData} (F : Fun K "_law_word" "_law_word" s_Lword ad.Lword fd) (T : Txt K mg ad) {ea C : Addr} {dx : Option Addr} {ob : Obj} (mk : MkO C dx ob) : FnOkM P w K mg base ea ob 1 ad.Lword fd ["_law_error"] (spWord ad K ea C dx) := by
  refine F.okM mk sc_Lword (fun vs H Q E h => ?_) (fun cdv A outer s H vs Q HRM CM HH h => ?_)
  · obtain ⟨n, rfl, _⟩ := h
    rfl
  · obtain ⟨n, rfl, rfl, ⟨er, si, fe, ve⟩, hn, hq⟩ := h
    have ND := sc_Lword.nd
    have HU0 := HRM.units0
    have HU := HRM.units
    have hz : (100000 : Nat) ≤ sizeLine := by rw [sizeLine_eq]; decide
    refine ⟨_, (pss_cons (ps_set (i := 1) ND rfl (loc_of (Or.inl l_Lword__law_some)) (pe_lst (pa_cons (pe_tup (pa_cons pe_str (pa_cons (pe_callB (call_isinstE (mkd_m HH) mk er) (gl_of g_Lword_isinstance) T.b_isinstance PyProof.Rows.Boot.«isinstance» (pa_cons (pe_var (i := 0) (x := "_law_error") rfl (vis_of v_Lword__law_error) d__law_error e__law_error) (pa_cons (pe_glob (v := .ref ad.C_BadFloor) (gl_of g_Lword_BadFloor) T.mg_BadFloor rfl (hd := d_BadFloor)) pa_nil (stp rfl)) (stp rfl)) (hn := n_isinstance) (hdb := d_isinstance) (he := stp rfl) (hpl := anp rfl)) pa_nil (stp rfl)) (stp rfl))) (pa_cons (pe_tup (pa_cons pe_str (pa_cons (pe_callB (call_isinstE (mkd_m HH) mk er) (gl_of g_Lword_isinstance) T.b_isinstance PyProof.Rows.Boot.«isinstance» (pa_cons (pe_var (i := 0) (x := "_law_error") rfl (vis_of v_Lword__law_error) d__law_error e__law_error) (pa_cons (pe_glob (v := .ref ad.C_BadKind) (gl_of g_Lword_BadKind) T.mg_BadKind rfl (hd := d_BadKind)) pa_nil (stp rfl)) (stp rfl)) (hn := n_isinstance) (hdb := d_isinstance) (he := stp rfl) (hpl := anp rfl)) pa_nil (stp rfl)) (stp rfl))) pa_nil (stp rfl)) (stp rfl))))
 (pss_cons (ps_set (i := 1) ND rfl (loc_of (Or.inl l_Lword__law_some)) (pe_op op_cat (pe_var (i := 1) (x := "_law_some") rfl (vis_of v_Lword__law_some) d__law_some e__law_some) (pe_lst (pa_cons (pe_tup (pa_cons pe_str (pa_cons (pe_callB (call_isinstE (mkd_m HH) mk er) (gl_of g_Lword_isinstance) T.b_isinstance PyProof.Rows.Boot.«isinstance» (pa_cons (pe_var (i := 0) (x := "_law_error") rfl (vis_of v_Lword__law_error) d__law_error e__law_error) (pa_cons (pe_glob (v := .ref ad.C_BadCell) (gl_of g_Lword_BadCell) T.mg_BadCell rfl (hd := d_BadCell)) pa_nil (stp rfl)) (stp rfl)) (hn := n_isinstance) (hdb := d_isinstance) (he := stp rfl) (hpl := anp rfl)) pa_nil (stp rfl)) (stp rfl))) (pa_cons (pe_tup (pa_cons pe_str (pa_cons (pe_callB (call_isinstE (mkd_m HH) mk er) (gl_of g_Lword_isinstance) T.b_isinstance PyProof.Rows.Boot.«isinstance» (pa_cons (pe_var (i := 0) (x := "_law_error") rfl (vis_of v_Lword__law_error) d__law_error e__law_error) (pa_cons (pe_glob (v := .ref ad.C_BadCharge) (gl_of g_Lword_BadCharge) T.mg_BadCharge rfl (hd := d_BadCharge)) pa_nil (stp rfl)) (stp rfl)) (hn := n_isinstance) (hdb := d_isinstance) (he := stp rfl) (hpl := anp rfl)) pa_nil (stp rfl)) (stp rfl))) pa_nil (stp rfl)) (stp rfl)))))
 (pss_cons (ps_set (i := 1) ND rfl (loc_of (Or.inl l_Lword__law_some)) (pe_op op_cat (pe_var (i := 1) (x := "_law_some") rfl (vis_of v_Lword__law_some) d__law_some e__law_some) (pe_lst (pa_cons (pe_tup (pa_cons pe_str (pa_cons (pe_callB (call_isinstE (mkd_m HH) mk er) (gl_of g_Lword_isinstance) T.b_isinstance PyProof.Rows.Boot.«isinstance» (pa_cons (pe_var (i := 0) (x := "_law_error") rfl (vis_of v_Lword__law_error) d__law_error e__law_error) (pa_cons (pe_glob (v := .ref ad.C_BadStops) (gl_of g_Lword_BadStops) T.mg_BadStops rfl (hd := d_BadStops)) pa_nil (stp rfl)) (stp rfl)) (hn := n_isinstance) (hdb := d_isinstance) (he := stp rfl) (hpl := anp rfl)) pa_nil (stp rfl)) (stp rfl))) (pa_cons (pe_tup (pa_cons pe_str (pa_cons (pe_callB (call_isinstE (mkd_m HH) mk er) (gl_of g_Lword_isinstance) T.b_isinstance PyProof.Rows.Boot.«isinstance» (pa_cons (pe_var (i := 0) (x := "_law_error") rfl (vis_of v_Lword__law_error) d__law_error e__law_error) (pa_cons (pe_glob (v := .ref ad.C_BadWay) (gl_of g_Lword_BadWay) T.mg_BadWay rfl (hd := d_BadWay)) pa_nil (stp rfl)) (stp rfl)) (hn := n_isinstance) (hdb := d_isinstance) (he := stp rfl) (hpl := anp rfl)) pa_nil (stp rfl)) (stp rfl))) pa_nil (stp rfl)) (stp rfl)))))
 (pss_cons (ps_set (i := 1) ND rfl (loc_of (Or.inl l_Lword__law_some)) (pe_op op_cat (pe_var (i := 1) (x := "_law_some") rfl (vis_of v_Lword__law_some) d__law_some e__law_some) (pe_lst (pa_cons (pe_tup (pa_cons pe_str (pa_cons (pe_callB (call_isinstE (mkd_m HH) mk er) (gl_of g_Lword_isinstance) T.b_isinstance PyProof.Rows.Boot.«isinstance» (pa_cons (pe_var (i := 0) (x := "_law_error") rfl (vis_of v_Lword__law_error) d__law_error e__law_error) (pa_cons (pe_glob (v := .ref ad.C_Empty) (gl_of g_Lword_Empty) T.mg_Empty rfl (hd := d_Empty)) pa_nil (stp rfl)) (stp rfl)) (hn := n_isinstance) (hdb := d_isinstance) (he := stp rfl) (hpl := anp rfl)) pa_nil (stp rfl)) (stp rfl))) (pa_cons (pe_tup (pa_cons pe_str (pa_cons (pe_callB (call_isinstE (mkd_m HH) mk er) (gl_of g_Lword_isinstance) T.b_isinstance PyProof.Rows.Boot.«isinstance» (pa_cons (pe_var (i := 0) (x := "_law_error") rfl (vis_of v_Lword__law_error) d__law_error e__law_error) (pa_cons (pe_glob (v := .ref ad.C_NoCarrier) (gl_of g_Lword_NoCarrier) T.mg_NoCarrier rfl (hd := d_NoCarrier)) pa_nil (stp rfl)) (stp rfl)) (hn := n_isinstance) (hdb := d_isinstance) (he := stp rfl) (hpl := anp rfl)) pa_nil (stp rfl)) (stp rfl))) pa_nil (stp rfl)) (stp rfl)))))
 (pss_cons (ps_set (i := 1) ND rfl (loc_of (Or.inl l_Lword__law_some)) (pe_op op_cat (pe_var (i := 1) (x := "_law_some") rfl (vis_of v_Lword__law_some) d__law_some e__law_some) (pe_lst (pa_cons (pe_tup (pa_cons pe_str (pa_cons (pe_callB (call_isinstE (mkd_m HH) mk er) (gl_of g_Lword_isinstance) T.b_isinstance PyProof.Rows.Boot.«isinstance» (pa_cons (pe_var (i := 0) (x := "_law_error") rfl (vis_of v_Lword__law_error) d__law_error e__law_error) (pa_cons (pe_glob (v := .ref ad.C_NoTask) (gl_of g_Lword_NoTask) T.mg_NoTask rfl (hd := d_NoTask)) pa_nil (stp rfl)) (stp rfl)) (hn := n_isinstance) (hdb := d_isinstance) (he := stp rfl) (hpl := anp rfl)) pa_nil (stp rfl)) (stp rfl))) (pa_cons (pe_tup (pa_cons pe_str (pa_cons (pe_callB (call_isinstE (mkd_m HH) mk er) (gl_of g_Lword_isinstance) T.b_isinstance PyProof.Rows.Boot.«isinstance» (pa_cons (pe_var (i := 0) (x := "_law_error") rfl (vis_of v_Lword__law_error) d__law_error e__law_error) (pa_cons (pe_glob (v := .ref ad.C_Meets) (gl_of g_Lword_Meets) T.mg_Meets rfl (hd := d_Meets)) pa_nil (stp rfl)) (stp rfl)) (hn := n_isinstance) (hdb := d_isinstance) (he := stp rfl) (hpl := anp rfl)) pa_nil (stp rfl)) (stp rfl))) pa_nil (stp rfl)) (stp rfl)))))
 (pss_cons (ps_set (i := 1) ND rfl (loc_of (Or.inl l_Lword__law_some)) (pe_op op_cat (pe_var (i := 1) (x := "_law_some") rfl (vis_of v_Lword__law_some) d__law_some e__law_some) (pe_lst (pa_cons (pe_tup (pa_cons pe_str (pa_cons (pe_callB (call_isinstE (mkd_m HH) mk er) (gl_of g_Lword_isinstance) T.b_isinstance PyProof.Rows.Boot.«isinstance» (pa_cons (pe_var (i := 0) (x := "_law_error") rfl (vis_of v_Lword__law_error) d__law_error e__law_error) (pa_cons (pe_glob (v := .ref ad.C_Taken) (gl_of g_Lword_Taken) T.mg_Taken rfl (hd := d_Taken)) pa_nil (stp rfl)) (stp rfl)) (hn := n_isinstance) (hdb := d_isinstance) (he := stp rfl) (hpl := anp rfl)) pa_nil (stp rfl)) (stp rfl))) (pa_cons (pe_tup (pa_cons pe_str (pa_cons (pe_callB (call_isinstE (mkd_m HH) mk er) (gl_of g_Lword_isinstance) T.b_isinstance PyProof.Rows.Boot.«isinstance» (pa_cons (pe_var (i := 0) (x := "_law_error") rfl (vis_of v_Lword__law_error) d__law_error e__law_error) (pa_cons (pe_glob (v := .ref ad.C_Busy) (gl_of g_Lword_Busy) T.mg_Busy rfl (hd := d_Busy)) pa_nil (stp rfl)) (stp rfl)) (hn := n_isinstance) (hdb := d_isinstance) (he := stp rfl) (hpl := anp rfl)) pa_nil (stp rfl)) (stp rfl))) pa_nil (stp rfl)) (stp rfl)))))
 (pss_cons (ps_set (i := 1) ND rfl (loc_of (Or.inl l_Lword__law_some)) (pe_op op_cat (pe_var (i := 1) (x := "_law_some") rfl (vis_of v_Lword__law_some) d__law_some e__law_some) (pe_lst (pa_cons (pe_tup (pa_cons pe_str (pa_cons (pe_callB (call_isinstE (mkd_m HH) mk er) (gl_of g_Lword_isinstance) T.b_isinstance PyProof.Rows.Boot.«isinstance» (pa_cons (pe_var (i := 0) (x := "_law_error") rfl (vis_of v_Lword__law_error) d__law_error e__law_error) (pa_cons (pe_glob (v := .ref ad.C_NoReserve) (gl_of g_Lword_NoReserve) T.mg_NoReserve rfl (hd := d_NoReserve)) pa_nil (stp rfl)) (stp rfl)) (hn := n_isinstance) (hdb := d_isinstance) (he := stp rfl) (hpl := anp rfl)) pa_nil (stp rfl)) (stp rfl))) (pa_cons (pe_tup (pa_cons pe_str (pa_cons (pe_callB (call_isinstE (mkd_m HH) mk er) (gl_of g_Lword_isinstance) T.b_isinstance PyProof.Rows.Boot.«isinstance» (pa_cons (pe_var (i := 0) (x := "_law_error") rfl (vis_of v_Lword__law_error) d__law_error e__law_error) (pa_cons (pe_glob (v := .ref ad.C_Closed) (gl_of g_Lword_Closed) T.mg_Closed rfl (hd := d_Closed)) pa_nil (stp rfl)) (stp rfl)) (hn := n_isinstance) (hdb := d_isinstance) (he := stp rfl) (hpl := anp rfl)) pa_nil (stp rfl)) (stp rfl))) pa_nil (stp rfl)) (stp rfl)))))
 (pss_cons (ps_set (i := 1) ND rfl (loc_of (Or.inl l_Lword__law_some)) (pe_op op_cat (pe_var (i := 1) (x := "_law_some") rfl (vis_of v_Lword__law_some) d__law_some e__law_some) (pe_lst (pa_cons (pe_tup (pa_cons pe_str (pa_cons (pe_callB (call_isinstE (mkd_m HH) mk er) (gl_of g_Lword_isinstance) T.b_isinstance PyProof.Rows.Boot.«isinstance» (pa_cons (pe_var (i := 0) (x := "_law_error") rfl (vis_of v_Lword__law_error) d__law_error e__law_error) (pa_cons (pe_glob (v := .ref ad.C_Jammed) (gl_of g_Lword_Jammed) T.mg_Jammed rfl (hd := d_Jammed)) pa_nil (stp rfl)) (stp rfl)) (hn := n_isinstance) (hdb := d_isinstance) (he := stp rfl) (hpl := anp rfl)) pa_nil (stp rfl)) (stp rfl))) pa_nil (stp rfl)))))
 (pss_cons (ps_comp (i := 2) (CompScope.of (osc := defScope s_Lword) (tn := ["_law_word_here", "_law_fits"]) (cn := []) (caps := []) rfl rfl (by decide +kernel) (by decide +kernel) (by decide +kernel) (by decide +kernel) rfl) CM ND rfl l_Lword__law_found (pi_list (pe_var (i := 1) (x := "_law_some") rfl (vis_of v_Lword__law_some) d__law_some e__law_some))
 (fun _ _ _ _ _ => (pg_pairC rfl CM (show (["_law_word_here", "_law_fits"] : List Str).Nodup by decide +kernel) (Or.inl rfl) (Or.inl rfl) rfl rfl)) (fun _ _ _ _ _ => (pts_one (pt_val (pv 1)))) (fun _ _ _ _ _ => (pv 0)) (hsw := by rfl))
 (pss_cons (ps_if (PW.pt (pw_or (pt_not (pt_val (pe_callB (call_isinstE (mkd_m HH) mk er) (gl_of g_Lword_isinstance) T.b_isinstance PyProof.Rows.Boot.«isinstance» (pa_cons (pe_var (i := 0) (x := "_law_error") rfl (vis_of v_Lword__law_error) d__law_error e__law_error) (pa_cons (pe_glob (v := .ref ad.C_FloorError) (gl_of g_Lword_FloorError) T.mg_FloorError rfl (hd := d_FloorError)) pa_nil (stp rfl)) (stp rfl)) (hn := n_isinstance) (hdb := d_isinstance) (he := stp rfl) (hpl := anp rfl)))) (pw_or1 (pt_not (pt_val (pe_callB (call_isinstE (mkd_m HH) mk er) (gl_of g_Lword_isinstance) T.b_isinstance PyProof.Rows.Boot.«isinstance» (pa_cons (pe_var (i := 0) (x := "_law_error") rfl (vis_of v_Lword__law_error) d__law_error e__law_error) (pa_cons (pe_bltn (v := .ty "ValueError") (gl_of g_Lword_ValueError) T.b_ValueError PyProof.Rows.Boot.«ValueError» rfl (hn := n_ValueError) (hd := d_ValueError)) pa_nil (stp rfl)) (stp rfl)) (hn := n_isinstance) (hdb := d_isinstance) (he := stp rfl) (hpl := anp rfl)))))))
 (pss_one (ps_expr (pe_bm PySem.F.plainAttrs_list PySem.F.slot_list_append PySem.F.type_list_append mt_append (pe_var (i := 2) (x := "_law_found") rfl (vis_of v_Lword__law_found) d__law_found e__law_found) (pa_cons pe_str pa_nil (stp rfl)))))
 pss_nil)
 (pss_one (ps_ret (pe_bm PySem.F.plainAttrs_str PySem.F.slot_str_join PySem.F.type_str_join mt_join pe_str (pa_cons (pe_var (i := 2) (x := "_law_found") rfl (vis_of v_Lword__law_found) d__law_found e__law_found) pa_nil (stp rfl))))))))))))))), ?_⟩
    refine tSeq_cut (fun σ H' => ∃ l, Same H H' ∧ PairsAt n 2 H' l ∧ σ = [some (.ref ea), some (.ref l), none]) (fun nx hk => ?_) ?_
    · walk_at "RD"
      refine ⟨_, rfl, _, si 0 _ rfl, by omega, fun a na => ⟨_, rfl, _, si 1 _ rfl, by omega, fun b nb => ⟨by omega, fun c nc => ?_⟩⟩⟩
      have S := ((same_new na).trans (same_new nb)).trans (same_new (o := HO.lst [V.ref a, V.ref b]) nc)
      refine hk _ _ ⟨c, S, PairsAt.add (m := 0) (ts := []) (us := [a, b]) rfl (fun i t e => by simp at e) S (fun i t e => ?_) upd_same, rfl⟩
      match i, e with
      | 0, e => cases e; exact (same_new nc) _ _ ((same_new nb) _ _ upd_same)
      | 1, e => cases e; exact (same_new nc) _ _ upd_same
      | (i + 2), e => simp at e
    rintro σ H1 ⟨l, s1, p1, rfl⟩
    refine tSeq_cut (fun σ H' => ∃ l, Same H H' ∧ PairsAt n 4 H' l ∧ σ = [some (.ref ea), some (.ref l), none]) (fun nx hk => ?_) ?_
    · walk_at "RD"
      obtain ⟨ts, t1, t2, t3⟩ := p1
      refine ⟨_, rfl, _, si 2 _ rfl, by omega, fun a na => ⟨_, rfl, _, si 3 _ rfl, by omega, fun b nb => ⟨by omega, fun c nc => ?_⟩⟩⟩
      have S := ((same_new na).trans (same_new nb)).trans (same_new (o := HO.lst [V.ref a, V.ref b]) nc)
      refine ⟨_, S _ _ t2, _, upd_same, by simp [t1]; omega, fun d nd => hk _ _ ⟨d, s1.trans (S.trans (same_new nd)), PairsAt.add (us := [a, b]) t1 t3 (S.trans (same_new nd)) (fun i t e => ?_) upd_same, rfl⟩⟩
      match i, e with
      | 0, e => cases e; exact (same_new nd) _ _ ((same_new nc) _ _ ((same_new nb) _ _ upd_same))
      | 1, e => cases e; exact (same_new nd) _ _ ((same_new nc) _ _ upd_same)
      | (i + 2), e => simp at e
    rintro σ H1 ⟨l, s1, p1, rfl⟩
    refine tSeq_cut (fun σ H' => ∃ l, Same H H' ∧ PairsAt n 6 H' l ∧ σ = [some (.ref ea), some (.ref l), none]) (fun nx hk => ?_) ?_
    · walk_at "RD"
      obtain ⟨ts, t1, t2, t3⟩ := p1
      refine ⟨_, rfl, _, si 4 _ rfl, by omega, fun a na => ⟨_, rfl, _, si 5 _ rfl, by omega, fun b nb => ⟨by omega, fun c nc => ?_⟩⟩⟩
      have S := ((same_new na).trans (same_new nb)).trans (same_new (o := HO.lst [V.ref a, V.ref b]) nc)
      refine ⟨_, S _ _ t2, _, upd_same, by simp [t1]; omega, fun d nd => hk _ _ ⟨d, s1.trans (S.trans (same_new nd)), PairsAt.add (us := [a, b]) t1 t3 (S.trans (same_new nd)) (fun i t e => ?_) upd_same, rfl⟩⟩
      match i, e with
      | 0, e => cases e; exact (same_new nd) _ _ ((same_new nc) _ _ ((same_new nb) _ _ upd_same))
      | 1, e => cases e; exact (same_new nd) _ _ ((same_new nc) _ _ upd_same)
      | (i + 2), e => simp at e
    rintro σ H1 ⟨l, s1, p1, rfl⟩
    refine tSeq_cut (fun σ H' => ∃ l, Same H H' ∧ PairsAt n 8 H' l ∧ σ = [some (.ref ea), some (.ref l), none]) (fun nx hk => ?_) ?_
    · walk_at "RD"
      obtain ⟨ts, t1, t2, t3⟩ := p1
      refine ⟨_, rfl, _, si 6 _ rfl, by omega, fun a na => ⟨_, rfl, _, si 7 _ rfl, by omega, fun b nb => ⟨by omega, fun c nc => ?_⟩⟩⟩
      have S := ((same_new na).trans (same_new nb)).trans (same_new (o := HO.lst [V.ref a, V.ref b]) nc)
      refine ⟨_, S _ _ t2, _, upd_same, by simp [t1]; omega, fun d nd => hk _ _ ⟨d, s1.trans (S.trans (same_new nd)), PairsAt.add (us := [a, b]) t1 t3 (S.trans (same_new nd)) (fun i t e => ?_) upd_same, rfl⟩⟩
      match i, e with
      | 0, e => cases e; exact (same_new nd) _ _ ((same_new nc) _ _ ((same_new nb) _ _ upd_same))
      | 1, e => cases e; exact (same_new nd) _ _ ((same_new nc) _ _ upd_same)
      | (i + 2), e => simp at e
    rintro σ H1 ⟨l, s1, p1, rfl⟩
    refine tSeq_cut (fun σ H' => ∃ l, Same H H' ∧ PairsAt n 10 H' l ∧ σ = [some (.ref ea), some (.ref l), none]) (fun nx hk => ?_) ?_
    · walk_at "RD"
      obtain ⟨ts, t1, t2, t3⟩ := p1
      refine ⟨_, rfl, _, si 8 _ rfl, by omega, fun a na => ⟨_, rfl, _, si 9 _ rfl, by omega, fun b nb => ⟨by omega, fun c nc => ?_⟩⟩⟩
      have S := ((same_new na).trans (same_new nb)).trans (same_new (o := HO.lst [V.ref a, V.ref b]) nc)
      refine ⟨_, S _ _ t2, _, upd_same, by simp [t1]; omega, fun d nd => hk _ _ ⟨d, s1.trans (S.trans (same_new nd)), PairsAt.add (us := [a, b]) t1 t3 (S.trans (same_new nd)) (fun i t e => ?_) upd_same, rfl⟩⟩
      match i, e with
      | 0, e => cases e; exact (same_new nd) _ _ ((same_new nc) _ _ ((same_new nb) _ _ upd_same))
      | 1, e => cases e; exact (same_new nd) _ _ ((same_new nc) _ _ upd_same)
      | (i + 2), e => simp at e
    rintro σ H1 ⟨l, s1, p1, rfl⟩
    refine tSeq_cut (fun σ H' => ∃ l, Same H H' ∧ PairsAt n 12 H' l ∧ σ = [some (.ref ea), some (.ref l), none]) (fun nx hk => ?_) ?_
    · walk_at "RD"
      obtain ⟨ts, t1, t2, t3⟩ := p1
      refine ⟨_, rfl, _, si 10 _ rfl, by omega, fun a na => ⟨_, rfl, _, si 11 _ rfl, by omega, fun b nb => ⟨by omega, fun c nc => ?_⟩⟩⟩
      have S := ((same_new na).trans (same_new nb)).trans (same_new (o := HO.lst [V.ref a, V.ref b]) nc)
      refine ⟨_, S _ _ t2, _, upd_same, by simp [t1]; omega, fun d nd => hk _ _ ⟨d, s1.trans (S.trans (same_new nd)), PairsAt.add (us := [a, b]) t1 t3 (S.trans (same_new nd)) (fun i t e => ?_) upd_same, rfl⟩⟩
      match i, e with
      | 0, e => cases e; exact (same_new nd) _ _ ((same_new nc) _ _ ((same_new nb) _ _ upd_same))
      | 1, e => cases e; exact (same_new nd) _ _ ((same_new nc) _ _ upd_same)
      | (i + 2), e => simp at e
    rintro σ H1 ⟨l, s1, p1, rfl⟩
    refine tSeq_cut (fun σ H' => ∃ l, Same H H' ∧ PairsAt n 14 H' l ∧ σ = [some (.ref ea), some (.ref l), none]) (fun nx hk => ?_) ?_
    · walk_at "RD"
      obtain ⟨ts, t1, t2, t3⟩ := p1
      refine ⟨_, rfl, _, si 12 _ rfl, by omega, fun a na => ⟨_, rfl, _, si 13 _ rfl, by omega, fun b nb => ⟨by omega, fun c nc => ?_⟩⟩⟩
      have S := ((same_new na).trans (same_new nb)).trans (same_new (o := HO.lst [V.ref a, V.ref b]) nc)
      refine ⟨_, S _ _ t2, _, upd_same, by simp [t1]; omega, fun d nd => hk _ _ ⟨d, s1.trans (S.trans (same_new nd)), PairsAt.add (us := [a, b]) t1 t3 (S.trans (same_new nd)) (fun i t e => ?_) upd_same, rfl⟩⟩
      match i, e with
      | 0, e => cases e; exact (same_new nd) _ _ ((same_new nc) _ _ ((same_new nb) _ _ upd_same))
      | 1, e => cases e; exact (same_new nd) _ _ ((same_new nc) _ _ upd_same)
      | (i + 2), e => simp at e
    rintro σ H1 ⟨l, s1, p1, rfl⟩
    refine tSeq_cut (fun σ H' => ∃ l, Same H H' ∧ PairsAt n 15 H' l ∧ σ = [some (.ref ea), some (.ref l), none]) (fun nx hk => ?_) ?_
    · walk_at "RD"
      obtain ⟨ts, t1, t2, t3⟩ := p1
      refine ⟨_, rfl, _, si 14 _ rfl, by omega, fun a na => ⟨by omega, fun c nc => ?_⟩⟩
      have S := (same_new na).trans (same_new (o := HO.lst [V.ref a]) nc)
      refine ⟨_, S _ _ t2, _, upd_same, by simp [t1]; omega, fun d nd => hk _ _ ⟨d, s1.trans (S.trans (same_new nd)), PairsAt.add (us := [a]) t1 t3 (S.trans (same_new nd)) (fun i t e => ?_) upd_same, rfl⟩⟩
      match i, e with
      | 0, e => cases e; exact (same_new nd) _ _ ((same_new nc) _ _ upd_same)
      | (i + 1), e => simp at e
    rintro σ H1 ⟨l, s1, p1, rfl⟩
    obtain ⟨ts, t1, t2, t3⟩ := p1
    refine tSeq_cut (fun σ H' => ∃ lq l, Same H H' ∧ H' l = some (.lst [V.str (words.getD n "")]) ∧ σ = [some (.ref ea), some (.ref lq), some (.ref l)]) (fun nx hk => ?_) ?_
    · walk_at "RD"
      have pr : ∀ t ∈ ts, ∃ i, ts[i]? = some t ∧ H1 t = some (.tup [.str (words.getD i ""), .bl (decide (i = n))]) := fun t ht => by
        obtain ⟨i, hi⟩ := List.mem_iff_getElem?.mp ht
        exact ⟨i, hi, t3 i t hi⟩
      refine ⟨⟨_, SqL.of t2⟩, comp_pairs (u := fst H1) (v := snd H1) (src_list (SqL.of t2)) (fun t ht => ?_) (fun t => tru (snd H1 t)) (fun t => fst H1 t) (fun t ht Q h => ?_) (fun t ht _ Q h => ?_) (by omega) (fun p hp => ?_)⟩
      · obtain ⟨i, _, e⟩ := pr t ht
        simp only [fst, snd, e]
        exact SqT.of e
      · obtain ⟨i, _, e⟩ := pr t ht
        walk_at "RD"
        simp only [snd, e, tru] at h ⊢
        first | exact ⟨_, rfl, h⟩ | exact h
      · walk_at "RD"
        exact h
      · have e := filt_one (p := fun t => tru (snd H1 t)) (f := fun t => fst H1 t) (g := fun i => V.str (words.getD i "")) (n := n) ts 0 (fun i t q => by
          have := t3 i t q
          simp [snd, fst, this, tru]) (Nat.zero_le _) (by omega)
        rw [e]
        exact hk _ _ ⟨_, p, s1.trans (same_new hp), upd_same, rfl⟩
    rintro σ H2 ⟨lq, l2, s2, p2, rfl⟩
    walk_at "RD"
    refine ⟨_, rfl, _, fe, ?_⟩
    rw [if_neg (by decide)]
    refine ⟨_, rfl, _, ve, ?_⟩
    rw [if_neg (by decide)]
    refine ⟨rfl, [words.getD n ""], SqL.of p2, ?_, ?_⟩
    · rcases hn with rfl | rfl <;> decide +kernel
    · have e : Txt.join (Str.ofString "/") [words.getD n ""] = words.getD n "" := by rcases hn with rfl | rfl <;> decide +kernel
      rw [e]
      exact hq _ s2
theorem sc_Lsaid : FnScope ["_law_kind", "_law_full", "_law_error"] ["_law_kind", "_law_full"] (defScope s_Lsaid) := ⟨rfl, rfl, rfl, by decide +kernel, rfl, by decide +kernel, by decide +kernel⟩
set_option maxHeartbeats 4000000 in
theorem ok_Lsaid {fd : FuncData} (F : Fun K "_law_said" "_law_said" s_Lsaid ad.Lsaid fd) (T : Txt K mg ad) {fd_carrier_of : FuncData} (B_carrier_of : Binds K fd_carrier_of ["kind", "full"] []) {td_carrier_of0 : Tok} (BD_carrier_of : Binds K fd_carrier_of ["kind", "full"] [.int 20 td_carrier_of0]) (G_carrier_of : FnOk P w K mg base (CXE P w) 3 ad.carrier_of fd_carrier_of ["kind", "full"] (spMake ad K)) {fd_Lword : FuncData} (B_Lword : Binds K fd_Lword ["_law_error"] []) (GM_Lword : ∀ {ea C : Addr} {dx : Option Addr} {ob : Obj}, MkO C dx ob → FnOkM P w K mg base ea ob 1 ad.Lword fd_Lword ["_law_error"] (spWord ad K ea C dx)) : FnOk P w K mg base CX0 4 ad.Lsaid fd ["_law_kind", "_law_full"] (spSaid ad K) := by
  refine F.ok sc_Lsaid (fun vs H Q E h => ?_) (fun cdv A outer s H vs Q E HR h => ?_)
  · obtain ⟨k, f, rfl, _⟩ := h
    rfl
  · obtain ⟨k, f, rfl, hq⟩ := h
    have ND := sc_Lsaid.nd
    have HU0 := HR.units0
    have HU := HR.units
    have hA := HR.hd
    have hz : (100000 : Nat) ≤ sizeLine := by rw [sizeLine_eq]; decide
    refine ⟨_, (pss_cons (ps_tryAs (i := 2) ND rfl l_Lsaid__law_error rfl rfl (gl_of g_Lsaid_FloorError) T.mg_FloorError d_FloorError (fun pins EE WE XB => (pss_one (ps_expr (pe_callX G_carrier_of (HR.mono (by decide)) (gl_of g_Lsaid_carrier_of) T.mg_carrier_of T.k_carrier_of B_carrier_of .nil XB (pa_cons (pe_var (i := 0) (x := "_law_kind") rfl (vis_of v_Lsaid__law_kind) d__law_kind e__law_kind) (pa_cons (pe_var (i := 1) (x := "_law_full") rfl (vis_of v_Lsaid__law_full) d__law_full e__law_full) pa_nil (stp rfl)) (stp rfl)) (hdb := d_carrier_of) (he := stp rfl) (hpl := anp rfl)))))
 (fun pins ea C' dx ob mk => (pss_one (ps_ret (pe_callM (GM_Lword mk) mkd_suite (HR.m.mono (by decide)) (gl_of g_Lsaid__law_word) T.mg_Lword T.k_Lword B_Lword (pa_cons (pe_var (i := 2) (x := "_law_error") rfl (vis_of v_Lsaid__law_error) d__law_error e__law_error) pa_nil (stp rfl)) (hdb := d__law_word) (he := stp rfl) (hpl := anp rfl))))))
 (pss_one (ps_ret pe_str))), ?_⟩
    walk_at "RD"
    rcases hq with ⟨nk, hq⟩ | ⟨x, hx, rfl, ty, ha, hq⟩
    · refine ⟨fun σ cls dx H' => σ = [some k, some f, none] ∧ cls = .ref ad.C_BadKind ∧ dx = none ∧ H' = H, ⟨k, f, rfl, .inl ⟨nk, rfl, rfl, rfl, rfl⟩⟩, ?_⟩
      rintro σ cls dx H' ⟨rfl, rfl, rfl, rfl⟩
      exact ⟨_, rfl, T.xm_BadKind_FloorError, fun ea _ => ⟨_, rfl, 1, rfl, rfl, says_BadKind T, .inl rfl, hq⟩⟩
    · refine ⟨fun σ cls dx H' => σ = [some (.str x), some f, none] ∧ cls = .ref ad.C_BadCharge ∧ dx = none ∧ H' = H, ⟨_, f, rfl, .inr (.inl ⟨x, hx, rfl, ty, ha, rfl, rfl, rfl, rfl⟩)⟩, ?_⟩
      rintro σ cls dx H' ⟨rfl, rfl, rfl, rfl⟩
      exact ⟨_, rfl, T.xm_BadCharge_FloorError, fun ea _ => ⟨_, rfl, 3, rfl, rfl, says_BadCharge T, .inr rfl, hq⟩⟩
theorem sc_Lalone : FnScope ["_law_kind", "_law_error"] ["_law_kind"] (defScope s_Lalone) := ⟨rfl, rfl, rfl, by decide +kernel, rfl, by decide +kernel, by decide +kernel⟩
set_option maxHeartbeats 4000000 in
theorem ok_Lalone {fd : FuncData} (F : Fun K "_law_alone" "_law_alone" s_Lalone ad.Lalone fd) (T : Txt K mg ad) {fd_carrier_of : FuncData} (B_carrier_of : Binds K fd_carrier_of ["kind", "full"] []) {td_carrier_of0 : Tok} (BD_carrier_of : Binds K fd_carrier_of ["kind", "full"] [.int 20 td_carrier_of0]) (G_carrier_of : FnOk P w K mg base (CXE P w) 3 ad.carrier_of fd_carrier_of ["kind", "full"] (spMake ad K)) {fd_Lword : FuncData} (B_Lword : Binds K fd_Lword ["_law_error"] []) (GM_Lword : ∀ {ea C : Addr} {dx : Option Addr} {ob : Obj}, MkO C dx ob → FnOkM P w K mg base ea ob 1 ad.Lword fd_Lword ["_law_error"] (spWord ad K ea C dx)) : FnOk P w K mg base CX0 4 ad.Lalone fd ["_law_kind"] (spAlone ad K) := by
  refine F.ok sc_Lalone (fun vs H Q E h => ?_) (fun cdv A outer s H vs Q E HR h => ?_)
  · obtain ⟨k, rfl, _⟩ := h
    rfl
  · obtain ⟨k, rfl, nk, hq⟩ := h
    have ND := sc_Lalone.nd
    have HU0 := HR.units0
    have HU := HR.units
    have hA := HR.hd
    have hz : (100000 : Nat) ≤ sizeLine := by rw [sizeLine_eq]; decide
    refine ⟨_, (pss_cons (ps_tryAs (i := 1) ND rfl l_Lalone__law_error rfl rfl (gl_of g_Lalone_FloorError) T.mg_FloorError d_FloorError (fun pins EE WE XB => (pss_one (ps_expr (pe_callX G_carrier_of (HR.mono (by decide)) (gl_of g_Lalone_carrier_of) T.mg_carrier_of T.k_carrier_of BD_carrier_of (show Vals [V.int 20] [Value.int 20 _] from .cons ⟨_, rfl⟩  .nil) XB (pa_cons (pe_var (i := 0) (x := "_law_kind") rfl (vis_of v_Lalone__law_kind) d__law_kind e__law_kind) pa_nil (stp rfl)) (hdb := d_carrier_of) (he := stp rfl) (hpl := anp rfl)))))
 (fun pins ea C' dx ob mk => (pss_one (ps_ret (pe_callM (GM_Lword mk) mkd_suite (HR.m.mono (by decide)) (gl_of g_Lalone__law_word) T.mg_Lword T.k_Lword B_Lword (pa_cons (pe_var (i := 1) (x := "_law_error") rfl (vis_of v_Lalone__law_error) d__law_error e__law_error) pa_nil (stp rfl)) (hdb := d__law_word) (he := stp rfl) (hpl := anp rfl))))))
 (pss_one (ps_ret pe_str))), ?_⟩
    walk_at "RD"
    refine ⟨fun σ cls dx H' => σ = [some k, none] ∧ cls = .ref ad.C_BadKind ∧ dx = none ∧ H' = H, ⟨k, _, rfl, .inl ⟨nk, rfl, rfl, rfl, rfl⟩⟩, ?_⟩
    rintro σ cls dx H' ⟨rfl, rfl, rfl, rfl⟩
    exact ⟨_, rfl, T.xm_BadKind_FloorError, fun ea _ => ⟨_, rfl, 1, rfl, rfl, says_BadKind T, .inl rfl, hq⟩⟩
theorem sc_Lright : FnScope ["_law_one", "_law_kind", "_law_full", "_law_told"] ["_law_one", "_law_kind", "_law_full"] (defScope s_Lright) := ⟨rfl, rfl, rfl, by decide +kernel, rfl, by decide +kernel, by decide +kernel⟩
set_option maxHeartbeats 4000000 in
theorem ok_Lright {fd : FuncData} (F : Fun K "_law_right" "_law_right" s_Lright ad.Lright fd) (T : Txt K mg ad) {fd_Lwhole : FuncData} (B_Lwhole : Binds K fd_Lwhole ["_law_thing"] []) (G_Lwhole : FnOk P w K mg base CX0 1 ad.Lwhole fd_Lwhole ["_law_thing"] (spWhole K)) {fd_Cart_kind : FuncData} (B_Cart_kind : Binds K fd_Cart_kind ["self"] []) (G_Cart_kind : FnOk P w K mg base CX0 1 ad.Cart_kind fd_Cart_kind ["self"] (spKind "cart")) {fd_Crawler_kind : FuncData} (B_Crawler_kind : Binds K fd_Crawler_kind ["self"] []) (G_Crawler_kind : FnOk P w K mg base CX0 1 ad.Crawler_kind fd_Crawler_kind ["self"] (spKind "crawler")) {fd_Runner_kind : FuncData} (B_Runner_kind : Binds K fd_Runner_kind ["self"] []) (G_Runner_kind : FnOk P w K mg base CX0 1 ad.Runner_kind fd_Runner_kind ["self"] (spKind "runner")) : FnOk P w K mg base CX0 2 ad.Lright fd ["_law_one", "_law_kind", "_law_full"] (spRight ad) := by
  refine F.ok sc_Lright (fun vs H Q E h => ?_) (fun cdv A outer s H vs Q E HR h => ?_)
  · obtain ⟨p, i, x, n, rfl, _⟩ := h
    rfl
  · obtain ⟨p, i, x, n, rfl, hi, hc, hq⟩ := h
    have ND := sc_Lright.nd
    have HU0 := HR.units0
    have HU := HR.units
    have hA := HR.hd
    have hz : (100000 : Nat) ≤ sizeLine := by rw [sizeLine_eq]; decide
    refine ⟨_, (pss_cons (ps_if (PW.pt (pw_or (pt_not (pt_val (pe_callB call_isinstC (gl_of g_Lright_isinstance) T.b_isinstance PyProof.Rows.Boot.«isinstance» (pa_cons (pe_var (i := 0) (x := "_law_one") rfl (vis_of v_Lright__law_one) d__law_one e__law_one) (pa_cons (pe_glob (v := .ref ad.C_Carrier) (gl_of g_Lright_Carrier) T.mg_Carrier rfl (hd := d_Carrier)) pa_nil (stp rfl)) (stp rfl)) (hn := n_isinstance) (hdb := d_isinstance) (he := stp rfl) (hpl := anp rfl)))) (pw_or (pt_not (pt_val (pe_call G_Lwhole (HR.mono (by decide)) (gl_of g_Lright__law_whole) T.mg_Lwhole T.k_Lwhole B_Lwhole .nil pass0 (pa_cons (pe_fld (pe_var (i := 0) (x := "_law_one") rfl (vis_of v_Lright__law_one) d__law_one e__law_one) (by rfl)) pa_nil (stp rfl)) (hdb := d__law_whole) (he := stp rfl) (hpl := anp rfl)))) (pw_or (pt_cmpR op_ne (pe_fld (pe_var (i := 0) (x := "_law_one") rfl (vis_of v_Lright__law_one) d__law_one e__law_one) (by rfl)) (pe_var (i := 2) (x := "_law_full") rfl (vis_of v_Lright__law_full) d__law_full e__law_full) (nomark _)) (pw_or1 (pt_cmpR op_ne (pe_meth0V (k := 1) (pe_var (i := 0) (x := "_law_one") rfl (vis_of v_Lright__law_one) d__law_one e__law_one) (disp_cons T.cl_Cart T.m_Cart_kind G_Cart_kind (by decide) B_Cart_kind (disp_cons T.cl_Crawler T.m_Crawler_kind G_Crawler_kind (by decide) B_Crawler_kind (disp_cons T.cl_Runner T.m_Runner_kind G_Runner_kind (by decide) B_Runner_kind disp_nil))) (HR.mono (by decide))) (pe_var (i := 1) (x := "_law_kind") rfl (vis_of v_Lright__law_kind) d__law_kind e__law_kind) (nomark _)))))))
 (pss_one (ps_ret pe_bl))
 pss_nil)
 (pss_cons (ps_set (i := 3) ND rfl (loc_of (Or.inl l_Lright__law_told)) (pe_lst (pa_cons (pe_callB call_isinstC (gl_of g_Lright_isinstance) T.b_isinstance PyProof.Rows.Boot.«isinstance» (pa_cons (pe_var (i := 0) (x := "_law_one") rfl (vis_of v_Lright__law_one) d__law_one e__law_one) (pa_cons (pe_glob (v := .ref ad.C_Cart) (gl_of g_Lright_Cart) T.mg_Cart rfl (hd := d_Cart)) pa_nil (stp rfl)) (stp rfl)) (hn := n_isinstance) (hdb := d_isinstance) (he := stp rfl) (hpl := anp rfl)) (pa_cons (pe_callB call_isinstC (gl_of g_Lright_isinstance) T.b_isinstance PyProof.Rows.Boot.«isinstance» (pa_cons (pe_var (i := 0) (x := "_law_one") rfl (vis_of v_Lright__law_one) d__law_one e__law_one) (pa_cons (pe_glob (v := .ref ad.C_Crawler) (gl_of g_Lright_Crawler) T.mg_Crawler rfl (hd := d_Crawler)) pa_nil (stp rfl)) (stp rfl)) (hn := n_isinstance) (hdb := d_isinstance) (he := stp rfl) (hpl := anp rfl)) (pa_cons (pe_callB call_isinstC (gl_of g_Lright_isinstance) T.b_isinstance PyProof.Rows.Boot.«isinstance» (pa_cons (pe_var (i := 0) (x := "_law_one") rfl (vis_of v_Lright__law_one) d__law_one e__law_one) (pa_cons (pe_glob (v := .ref ad.C_Runner) (gl_of g_Lright_Runner) T.mg_Runner rfl (hd := d_Runner)) pa_nil (stp rfl)) (stp rfl)) (hn := n_isinstance) (hdb := d_isinstance) (he := stp rfl) (hpl := anp rfl)) pa_nil (stp rfl)) (stp rfl)) (stp rfl))))
 (pss_one (ps_ret (pe_cmpR (op_eqD HU) (pe_var (i := 3) (x := "_law_told") rfl (vis_of v_Lright__law_told) d__law_told e__law_told) (pe_lst (pa_cons (pe_cmpR op_eq (pe_var (i := 1) (x := "_law_kind") rfl (vis_of v_Lright__law_kind) d__law_kind e__law_kind) pe_str (nomark _)) (pa_cons (pe_cmpR op_eq (pe_var (i := 1) (x := "_law_kind") rfl (vis_of v_Lright__law_kind) d__law_kind e__law_kind) pe_str (nomark _)) (pa_cons (pe_cmpR op_eq (pe_var (i := 1) (x := "_law_kind") rfl (vis_of v_Lright__law_kind) d__law_kind e__law_kind) pe_str (nomark _)) pa_nil (stp rfl)) (stp rfl)) (stp rfl))) (nomark _)))))), ?_⟩
    obtain ⟨dx, hp⟩ := hc
    have lf : (putF "full" (V.int n) []).lookup ("full" : Str) = some (.int n) := by rw [lookup_putF, if_pos rfl]
    have lk : (putF "full" (V.int n) []).lookup ("kind" : Str) = none := by rw [lookup_putF, if_neg (by decide +kernel)]; rfl
    refine tSeq_cut (fun σ H' => H' = H ∧ σ = [some (.ref p), some (.str x), some (.int n), none]) (fun nx hk => ?_) ?_
    · walk_at "RD"
      refine ⟨_, rfl, _, (car_of T hp).1, _, (car_of T hp).2 0 _ rfl, ?_⟩
      rw [if_neg (by simp)]
      refine ⟨_, _, _, hp, cls_of T i, nof_of T i, _, lf, .int n, rfl, ⟨_, .int n⟩, true, rfl, ?_⟩
      rw [if_neg (by decide)]
      refine ⟨_, _, _, hp, cls_of T i, nof_of T i, _, lf, rfl, ?_⟩
      rw [if_neg (by simp)]
      refine ⟨p, dx, _, (clsOf ad i, spKind x), ?_, rfl, hp, lk, ?_⟩
      · match i, hi with
        | 0, hi => cases hi; simp [clsOf]
        | 1, hi => cases hi; simp [clsOf]
        | 2, hi => cases hi; simp [clsOf]
        | (i + 3), hi => simp [kinds] at hi
      · refine ⟨_, rfl, rfl, ?_⟩
        rw [if_neg (by simp)]
        exact hk _ _ ⟨rfl, rfl⟩
    rintro σ H' ⟨rfl, rfl⟩
    walk_at "RD"
    obtain ⟨b1, b2, b3, e1, e2, e3, d1, d2, d3⟩ : ∃ b1 b2 b3 : Bool, decide (1 = 0 ∨ 1 = min i 2 + 1) = b1 ∧ decide (2 = 0 ∨ 2 = min i 2 + 1) = b2 ∧ decide (3 = 0 ∨ 3 = min i 2 + 1) = b3 ∧ decide (x = Str.ofString "cart") = b1 ∧ decide (x = Str.ofString "crawler") = b2 ∧ decide (x = Str.ofString "runner") = b3 := by
      match i, hi with
      | 0, hi => cases hi; exact ⟨true, false, false, rfl, rfl, rfl, by decide +kernel, by decide +kernel, by decide +kernel⟩
      | 1, hi => cases hi; exact ⟨false, true, false, rfl, rfl, rfl, by decide +kernel, by decide +kernel, by decide +kernel⟩
      | 2, hi => cases hi; exact ⟨false, false, true, rfl, rfl, rfl, by decide +kernel, by decide +kernel, by decide +kernel⟩
      | (i + 3), hi => simp [kinds] at hi
    refine ⟨_, rfl, _, (car_of T hp).1, _, (car_of T hp).2 1 _ rfl, _, rfl, _, (car_of T hp).1, _, (car_of T hp).2 2 _ rfl, _, rfl, _, (car_of T hp).1, _, (car_of T hp).2 3 _ rfl, by omega, fun a na => ⟨by omega, fun b nb => ?_⟩⟩
    rw [e1, e2, e3] at nb ⊢
    rw [d1, d2, d3]
    have S := (same_new na).trans (same_new (o := HO.lst [V.bl b1, V.bl b2, V.bl b3]) nb)
    have hs : SeqAt.shaped (.list [.bool b1, .bool b2, .bool b3]) = true := by cases b1 <;> cases b2 <;> cases b3 <;> rfl
    refine ⟨_, .lst (SqL.of ((same_new nb) _ _ upd_same)) (.cons (.bl _) (.cons (.bl _) (.cons (.bl _) .nil))), _, .lst (SqL.of upd_same) (.cons (.bl _) (.cons (.bl _) (.cons (.bl _) .nil))), hs, hs, ?_⟩
    rw [eqv_self _ (SeqAt.canLay_of_shaped hs)]
    exact hq _ S
theorem sc_law : FnScope ["_law_script", "_law_k", "_law_cell", "_law_kind", "_law_full", "_law_wrong", "_law_bad", "_law_odd", "_law_worse"] ["_law_script"] (defScope s_law) := ⟨rfl, rfl, rfl, by decide +kernel, rfl, by decide +kernel, by decide +kernel⟩
set_option maxHeartbeats 4000000 in
theorem ok_law {fd : FuncData} (F : Fun K "law" "law" s_law ad.law fd) (T : Txt K mg ad) {fd_Lat : FuncData} (B_Lat : Binds K fd_Lat ["_law_script", "_law_k"] []) (G_Lat : FnOk P w K mg base CX0 1 ad.Lat fd_Lat ["_law_script", "_law_k"] (spAt K)) {fd_Lsaid : FuncData} (B_Lsaid : Binds K fd_Lsaid ["_law_kind", "_law_full"] []) (G_Lsaid : FnOk P w K mg base CX0 4 ad.Lsaid fd_Lsaid ["_law_kind", "_law_full"] (spSaid ad K)) {fd_Lalone : FuncData} (B_Lalone : Binds K fd_Lalone ["_law_kind"] []) (G_Lalone : FnOk P w K mg base CX0 4 ad.Lalone fd_Lalone ["_law_kind"] (spAlone ad K)) {fd_carrier_of : FuncData} (B_carrier_of : Binds K fd_carrier_of ["kind", "full"] []) {td_carrier_of0 : Tok} (BD_carrier_of : Binds K fd_carrier_of ["kind", "full"] [.int 20 td_carrier_of0]) (G_carrier_of : FnOk P w K mg base (CXE P w) 3 ad.carrier_of fd_carrier_of ["kind", "full"] (spMake ad K)) {fd_Lright : FuncData} (B_Lright : Binds K fd_Lright ["_law_one", "_law_kind", "_law_full"] []) (G_Lright : FnOk P w K mg base CX0 2 ad.Lright fd_Lright ["_law_one", "_law_kind", "_law_full"] (spRight ad)) : FnOk P w K mg base CX0 5 ad.law fd ["_law_script"] (spLaw K) := by
  refine F.ok sc_law (fun vs H Q E h => ?_) (fun cdv A outer s H vs Q E HR h => ?_)
  · obtain ⟨a, ns, rfl, _⟩ := h
    rfl
  · obtain ⟨a, ns, rfl, hS, hl, hq⟩ := h
    have ND := sc_law.nd
    have HU0 := HR.units0
    have HU := HR.units
    have hA := HR.hd
    have hz : (100000 : Nat) ≤ sizeLine := by rw [sizeLine_eq]; decide
    refine ⟨_, (pss_cons (ps_for PassesOwn.never (calm0 rfl) (pi_range1 (gl_of g_law_range) T.b_range (pa_cons pe_int pa_nil (stp rfl)) (st1 rfl)) (pg_name (i := 1) ND rfl (loc_of (Or.inl l_law__law_k)))
 (pss_cons (ps_set (i := 2) ND rfl (loc_of (Or.inl l_law__law_cell)) (pe_call G_Lat (HR.mono (by decide)) (gl_of g_law__law_at) T.mg_Lat T.k_Lat B_Lat .nil pass0 (pa_cons (pe_var (i := 0) (x := "_law_script") rfl (vis_of v_law__law_script) d__law_script e__law_script) (pa_cons (pe_var (i := 1) (x := "_law_k") rfl (vis_of v_law__law_k) d__law_k e__law_k) pa_nil (stp rfl)) (stp rfl)) (hdb := d__law_at) (he := stp rfl) (hpl := anp rfl)))
 (pss_cons (ps_set (i := 3) ND rfl (loc_of (Or.inl l_law__law_kind)) (pe_ix ix_list (pe_lst (pa_cons pe_str (pa_cons pe_str (pa_cons pe_str pa_nil (stp rfl)) (stp rfl)) (stp rfl))) (pe_op op_mod (pe_var (i := 2) (x := "_law_cell") rfl (vis_of v_law__law_cell) d__law_cell e__law_cell) pe_int) (fun _ _ => rfl)))
 (pss_cons (ps_set (i := 4) ND rfl (loc_of (Or.inl l_law__law_full)) (pe_ix ix_list (pe_lst (pa_cons (pe_op op_add pe_int (pe_op op_mod (pe_op op_fdiv (pe_var (i := 2) (x := "_law_cell") rfl (vis_of v_law__law_cell) d__law_cell e__law_cell) pe_int) pe_int)) (pa_cons pe_int (pa_cons pe_int (pa_cons pe_int pa_nil (stp rfl)) (stp rfl)) (stp rfl)) (stp rfl))) (pe_op op_mod (pe_op op_fdiv (pe_var (i := 2) (x := "_law_cell") rfl (vis_of v_law__law_cell) d__law_cell e__law_cell) pe_int) pe_int) (fun _ _ => rfl)))
 (pss_cons (ps_set (i := 5) ND rfl (loc_of (Or.inl l_law__law_wrong)) (pe_lst (pa_cons pe_str (pa_cons (pe_bm0 PySem.F.plainAttrs_str PySem.F.slot_str_upper PySem.F.type_str_upper mt_upper (pe_var (i := 3) (x := "_law_kind") rfl (vis_of v_law__law_kind) d__law_kind e__law_kind)) (pa_cons (pe_op op_add_str (pe_var (i := 3) (x := "_law_kind") rfl (vis_of v_law__law_kind) d__law_kind e__law_kind) pe_str) (pa_cons (pe_sliceS (pe_var (i := 3) (x := "_law_kind") rfl (vis_of v_law__law_kind) d__law_kind e__law_kind) (po_some pe_int) po_none) (pa_cons pe_str (pa_cons pe_non (pa_cons pe_int (pa_cons (pe_lst (pa_cons (pe_var (i := 3) (x := "_law_kind") rfl (vis_of v_law__law_kind) d__law_kind e__law_kind) pa_nil (stp rfl))) (pa_cons (pe_tup (pa_cons (pe_var (i := 3) (x := "_law_kind") rfl (vis_of v_law__law_kind) d__law_kind e__law_kind) pa_nil (stp rfl))) (pa_cons pe_dnewK (pa_cons pe_bl (pa_cons (pe_op op_add_str pe_str (pe_var (i := 3) (x := "_law_kind") rfl (vis_of v_law__law_kind) d__law_kind e__law_kind)) pa_nil (stp rfl)) (stp rfl)) (stp rfl)) (stp rfl)) (stp rfl)) (stp rfl)) (stp rfl)) (stp rfl)) (stp rfl)) (stp rfl)) (stp rfl)) (stp rfl))))
 (pss_cons (ps_set (i := 6) ND rfl (loc_of (Or.inl l_law__law_bad)) (pe_lst (pa_cons pe_int (pa_cons pe_int (pa_cons (pe_un un_neg pe_int) (pa_cons (pe_op op_pow pe_int pe_int) (pa_cons (pe_un un_neg (pe_var (i := 4) (x := "_law_full") rfl (vis_of v_law__law_full) d__law_full e__law_full)) (pa_cons pe_bl (pa_cons pe_bl (pa_cons pe_non (pa_cons pe_str (pa_cons (pe_lst (pa_cons pe_int pa_nil (stp rfl))) (pa_cons (pe_op op_add pe_int (pe_op op_mod (pe_op op_fdiv (pe_var (i := 2) (x := "_law_cell") rfl (vis_of v_law__law_cell) d__law_cell e__law_cell) pe_int) pe_int)) pa_nil (stp rfl)) (stp rfl)) (stp rfl)) (stp rfl)) (stp rfl)) (stp rfl)) (stp rfl)) (stp rfl)) (stp rfl)) (stp rfl)) (stp rfl))))
 (pss_cons (ps_set (i := 7) ND rfl (loc_of (Or.inl l_law__law_odd)) (pe_ix ix_list (pe_var (i := 5) (x := "_law_wrong") rfl (vis_of v_law__law_wrong) d__law_wrong e__law_wrong) (pe_op op_mod (pe_op op_fdiv (pe_var (i := 2) (x := "_law_cell") rfl (vis_of v_law__law_cell) d__law_cell e__law_cell) pe_int) pe_int) (fun _ _ => rfl)))
 (pss_cons (ps_if (PW.pt (pw_or (pt_cmpR op_ne (pe_call G_Lsaid (HR.mono (by decide)) (gl_of g_law__law_said) T.mg_Lsaid T.k_Lsaid B_Lsaid .nil pass0 (pa_cons (pe_var (i := 7) (x := "_law_odd") rfl (vis_of v_law__law_odd) d__law_odd e__law_odd) (pa_cons (pe_var (i := 4) (x := "_law_full") rfl (vis_of v_law__law_full) d__law_full e__law_full) pa_nil (stp rfl)) (stp rfl)) (hdb := d__law_said) (he := stp rfl) (hpl := anp rfl)) pe_str (nomark _)) (pw_or1 (pt_cmpR op_ne (pe_call G_Lalone (HR.mono (by decide)) (gl_of g_law__law_alone) T.mg_Lalone T.k_Lalone B_Lalone .nil pass0 (pa_cons (pe_var (i := 7) (x := "_law_odd") rfl (vis_of v_law__law_odd) d__law_odd e__law_odd) pa_nil (stp rfl)) (hdb := d__law_alone) (he := stp rfl) (hpl := anp rfl)) pe_str (nomark _)))))
 (pss_one (ps_ret pe_bl))
 pss_nil)
 (pss_cons (ps_set (i := 8) ND rfl (loc_of (Or.inl l_law__law_worse)) (pe_ix ix_list (pe_var (i := 6) (x := "_law_bad") rfl (vis_of v_law__law_bad) d__law_bad e__law_bad) (pe_op op_mod (pe_op op_fdiv (pe_var (i := 2) (x := "_law_cell") rfl (vis_of v_law__law_cell) d__law_cell e__law_cell) pe_int) pe_int) (fun _ _ => rfl)))
 (pss_cons (ps_if (PW.pt (pw_or (pt_cmpR op_ne (pe_call G_Lsaid (HR.mono (by decide)) (gl_of g_law__law_said) T.mg_Lsaid T.k_Lsaid B_Lsaid .nil pass0 (pa_cons (pe_var (i := 3) (x := "_law_kind") rfl (vis_of v_law__law_kind) d__law_kind e__law_kind) (pa_cons (pe_var (i := 8) (x := "_law_worse") rfl (vis_of v_law__law_worse) d__law_worse e__law_worse) pa_nil (stp rfl)) (stp rfl)) (hdb := d__law_said) (he := stp rfl) (hpl := anp rfl)) pe_str (nomark _)) (pw_or1 (pt_cmpR op_ne (pe_call G_Lsaid (HR.mono (by decide)) (gl_of g_law__law_said) T.mg_Lsaid T.k_Lsaid B_Lsaid .nil pass0 (pa_cons (pe_var (i := 7) (x := "_law_odd") rfl (vis_of v_law__law_odd) d__law_odd e__law_odd) (pa_cons (pe_var (i := 8) (x := "_law_worse") rfl (vis_of v_law__law_worse) d__law_worse e__law_worse) pa_nil (stp rfl)) (stp rfl)) (hdb := d__law_said) (he := stp rfl) (hpl := anp rfl)) pe_str (nomark _)))))
 (pss_one (ps_ret pe_bl))
 pss_nil)
 (pss_one (ps_if (PW.pt (pw_or (pt_not (pt_val (pe_call G_Lright (HR.mono (by decide)) (gl_of g_law__law_right) T.mg_Lright T.k_Lright B_Lright .nil pass0 (pa_cons (pe_callX G_carrier_of (HR.mono (by decide)) (gl_of g_law_carrier_of) T.mg_carrier_of T.k_carrier_of B_carrier_of .nil xc_no (pa_cons (pe_var (i := 3) (x := "_law_kind") rfl (vis_of v_law__law_kind) d__law_kind e__law_kind) (pa_cons (pe_var (i := 4) (x := "_law_full") rfl (vis_of v_law__law_full) d__law_full e__law_full) pa_nil (stp rfl)) (stp rfl)) (hdb := d_carrier_of) (he := stp rfl) (hpl := anp rfl)) (pa_cons (pe_var (i := 3) (x := "_law_kind") rfl (vis_of v_law__law_kind) d__law_kind e__law_kind) (pa_cons (pe_var (i := 4) (x := "_law_full") rfl (vis_of v_law__law_full) d__law_full e__law_full) pa_nil (stp rfl)) (stp rfl)) (stp rfl)) (hdb := d__law_right) (he := stp rfl) (hpl := anp rfl)))) (pw_or1 (pt_not (pt_val (pe_call G_Lright (HR.mono (by decide)) (gl_of g_law__law_right) T.mg_Lright T.k_Lright B_Lright .nil pass0 (pa_cons (pe_callX G_carrier_of (HR.mono (by decide)) (gl_of g_law_carrier_of) T.mg_carrier_of T.k_carrier_of BD_carrier_of (show Vals [V.int 20] [Value.int 20 _] from .cons ⟨_, rfl⟩  .nil) xc_no (pa_cons (pe_var (i := 3) (x := "_law_kind") rfl (vis_of v_law__law_kind) d__law_kind e__law_kind) pa_nil (stp rfl)) (hdb := d_carrier_of) (he := stp rfl) (hpl := anp rfl)) (pa_cons (pe_var (i := 3) (x := "_law_kind") rfl (vis_of v_law__law_kind) d__law_kind e__law_kind) (pa_cons pe_int pa_nil (stp rfl)) (stp rfl)) (stp rfl)) (hdb := d__law_right) (he := stp rfl) (hpl := anp rfl)))))))
 (pss_one (ps_ret pe_bl))
 pss_nil))))))))))))
 (pss_one (ps_ret pe_bl))), ?_⟩
    walk_at "RD"
    refine ⟨by decide, by decide, for_range (n := 4) (fun i σ H' => ∃ x1 x2 x3 x4 x5 x6 x7 x8, Same H H' ∧ σ = [some (.ref a), x1, x2, x3, x4, x5, x6, x7, x8]) ⟨_, _, _, _, _, _, _, _, Same.refl _, rfl⟩ ?_ ?_⟩
    · rintro i σ H0 hi ⟨x1, x2, x3, x4, x5, x6, x7, x8, s0, rfl⟩
      refine tSeq_cut (fun σ H' => ∃ c : Int, 0 ≤ c ∧ Same H0 H' ∧ σ = [some (.ref a), some (.int (0 + (i : Int))), some (.int c), x3, x4, x5, x6, x7, x8]) (fun nx hk => ?_) ?_
      · walk_at "RD"
        exact ⟨a, ns, _, rfl, Same.seq s0 hS, hl, by omega, by omega, fun r r0 _ => hk _ _ ⟨r, r0, Same.refl _, rfl⟩⟩
      rintro σ H' ⟨c, c0, s01, rfl⟩
      refine tSeq_cut (fun σ H' => ∃ (j : Nat) (z : Str), kinds[j]? = some z ∧ Same H0 H' ∧ σ = [some (.ref a), some (.int (0 + (i : Int))), some (.int c), some (.str z), x4, x5, x6, x7, x8]) (fun nx hk => ?_) ?_
      · walk_at "RD"
        refine ⟨by omega, fun p hp => ⟨by decide, _, SqL.of upd_same, ?_⟩⟩
        have S := s01.trans (same_new (o := HO.lst [V.str (Str.ofString "cart"), V.str (Str.ofString "crawler"), V.str (Str.ofString "runner")]) hp)
        rcases (by omega : c % 3 = 0 ∨ c % 3 = 1 ∨ c % 3 = 2) with e | e | e <;> rw [e]
        · exact ⟨_, rfl, hk _ _ ⟨0, _, rfl, S, rfl⟩⟩
        · exact ⟨_, rfl, hk _ _ ⟨1, _, rfl, S, rfl⟩⟩
        · exact ⟨_, rfl, hk _ _ ⟨2, _, rfl, S, rfl⟩⟩
      rintro σ H1 ⟨j, z, hj, s1, rfl⟩
      obtain ⟨z1, z2, z3, z4, z5, z6⟩ := kz j z hj
      refine tSeq_cut (fun σ H' => ∃ n : Int, 1 ≤ n ∧ n ≤ 60 ∧ Same H0 H' ∧ σ = [some (.ref a), some (.int (0 + (i : Int))), some (.int c), some (.str z), some (.int n), x5, x6, x7, x8]) (fun nx hk => ?_) ?_
      · walk_at "RD"
        refine ⟨⟨by decide, by decide⟩, by decide, by omega, fun p hp => ⟨⟨by decide, by decide⟩, by decide, _, SqL.of upd_same, ?_⟩⟩
        have S := s1.trans (same_new (o := HO.lst [V.int (1 + c / 3 % 60), V.int 1, V.int 60, V.int 20]) hp)
        rcases (by omega : c / 180 % 4 = 0 ∨ c / 180 % 4 = 1 ∨ c / 180 % 4 = 2 ∨ c / 180 % 4 = 3) with e | e | e | e <;> rw [e]
        · exact ⟨_, rfl, hk _ _ ⟨_, by omega, by omega, S, rfl⟩⟩
        · exact ⟨_, rfl, hk _ _ ⟨1, by omega, by omega, S, rfl⟩⟩
        · exact ⟨_, rfl, hk _ _ ⟨60, by omega, by omega, S, rfl⟩⟩
        · exact ⟨_, rfl, hk _ _ ⟨20, by omega, by omega, S, rfl⟩⟩
      rintro σ H2 ⟨n, n0, n1, s2, rfl⟩
      refine tSeq_cut (fun σ H' => ∃ w ws, H' w = some (.lst ws) ∧ ws.length = 12 ∧ (∀ v ∈ ws, notKind K H' v) ∧ Same H0 H' ∧ σ = [some (.ref a), some (.int (0 + (i : Int))), some (.int c), some (.str z), some (.int n), some (.ref w), x6, x7, x8]) (fun nx hk => ?_) ?_
      · walk_at "RD"
        have l1 : (Str.ofString "s").length = 1 := by decide +kernel
        have l2 : (Str.ofString " ").length = 1 := by decide +kernel
        refine ⟨rfl, z1, by omega, by omega, by omega, fun p hp => ⟨by omega, fun q hq' r hr => ⟨by omega, by omega, fun d hd => ?_⟩⟩⟩
        have S := (same_new hq').trans ((same_new hr).trans (same_new (o := HO.lst [V.str (Str.ofString "carrier"), V.str (Txt.upper z), V.str (z ++ Str.ofString "s"), V.str (Txt.slice z (some 1) none), V.str (Str.ofString ""), V.non, V.int 0, V.ref p, V.ref q, V.ref r, V.bl true, V.str (Str.ofString " " ++ z)]) hd))
        refine hk _ _ ⟨d, _, upd_same, rfl, fun v hv => ?_, s2.trans ((same_new hp).trans S), rfl⟩
        simp only [List.mem_cons, List.not_mem_nil, or_false] at hv
        rcases hv with rfl | rfl | rfl | rfl | rfl | rfl | rfl | rfl | rfl | rfl | rfl | rfl
        · exact .inl ⟨_, rfl, by decide +kernel⟩
        · exact .inl ⟨_, rfl, z3⟩
        · exact .inl ⟨_, rfl, z4⟩
        · exact .inl ⟨_, rfl, z5⟩
        · exact .inl ⟨_, rfl, by decide +kernel⟩
        · exact .inr ⟨⟨_, .non⟩, fun x z => by cases z⟩
        · exact .inr ⟨⟨_, .int 0⟩, fun x z => by cases z⟩
        · exact .inr ⟨⟨_, .lst (S _ _ upd_same)⟩, fun x z => by cases z⟩
        · exact .inr ⟨⟨_, .tup ((same_new hd) _ _ ((same_new hr) _ _ upd_same))⟩, fun x z => by cases z⟩
        · exact .inr ⟨⟨_, .dK ((same_new hd) _ _ upd_same)⟩, fun x z => by cases z⟩
        · exact .inr ⟨⟨_, .bl true⟩, fun x z => by cases z⟩
        · exact .inl ⟨_, rfl, z6⟩
      rintro σ H3 ⟨w, ws, hw, wl, wk, s3, rfl⟩
      refine tSeq_cut (fun σ H' => ∃ b bs, H' b = some (.lst bs) ∧ bs.length = 11 ∧ (∀ v ∈ bs, TyB K H' v ∧ amg v 1 60 = false) ∧ Same H3 H' ∧ σ = [some (.ref a), some (.int (0 + (i : Int))), some (.int c), some (.str z), some (.int n), some (.ref w), some (.ref b), x7, x8]) (fun nx hk => ?_) ?_
      · walk_at "RD"
        refine ⟨⟨by decide, by decide⟩, by omega, fun p hp => ⟨⟨by decide, by decide⟩, by decide, by omega, fun d hd => ?_⟩⟩
        refine hk _ _ ⟨d, _, upd_same, rfl, fun v hv => ?_, (same_new hp).trans (same_new hd), rfl⟩
        simp only [List.mem_cons, List.not_mem_nil, or_false] at hv
        have am : ∀ k : Int, (k < 1 ∨ 60 < k) → amg (.int k) 1 60 = false := fun k hk => by
          simp only [amg, Bool.and_eq_false_iff, decide_eq_false_iff_not]
          omega
        rcases hv with rfl | rfl | rfl | rfl | rfl | rfl | rfl | rfl | rfl | rfl | rfl
        · exact ⟨⟨_, .int _⟩, am _ (by omega)⟩
        · exact ⟨⟨_, .int _⟩, am _ (by omega)⟩
        · exact ⟨⟨_, .int _⟩, am _ (by omega)⟩
        · exact ⟨⟨_, .int _⟩, am _ (by right; decide)⟩
        · exact ⟨⟨_, .int _⟩, am _ (by omega)⟩
        · exact ⟨⟨_, .bl _⟩, rfl⟩
        · exact ⟨⟨_, .bl _⟩, rfl⟩
        · exact ⟨⟨_, .non⟩, rfl⟩
        · exact ⟨⟨_, .str _⟩, rfl⟩
        · exact ⟨⟨_, .lst ((same_new hd) _ _ upd_same)⟩, rfl⟩
        · exact ⟨⟨_, .int _⟩, am _ (by omega)⟩
      rintro σ H4 ⟨b, bs, hb, bl, bk, s4, rfl⟩
      have ix : ∀ (xs : List V) (m : Nat) (k : Int), xs.length = m → 0 < m → 0 ≤ k → k < m → ∃ v, atI xs k = some v ∧ v ∈ xs := fun xs m k h1 h2 h3 h4 => by
        obtain ⟨q, rfl⟩ := Int.eq_ofNat_of_zero_le h3
        have hq' : q < xs.length := by omega
        exact ⟨xs[q], atI_nat (by simp [hq']), List.getElem_mem hq'⟩
      obtain ⟨o, ho, om⟩ := ix ws 12 (c / 720 % 12) wl (by omega) (by omega) (by omega)
      obtain ⟨y, hy, ym⟩ := ix bs 11 (c / 8640 % 11) bl (by omega) (by omega) (by omega)
      have nk := wk o om
      obtain ⟨yt, ya⟩ := bk y ym
      have hz : z ∈ kinds := List.mem_of_getElem? hj
      refine tSeq_cut (fun σ H' => Same H4 H' ∧ σ = [some (.ref a), some (.int (0 + (i : Int))), some (.int c), some (.str z), some (.int n), some (.ref w), some (.ref b), some o, x8]) (fun nx hk => ?_) ?_
      · walk_at "RD"
        exact ⟨⟨by decide, by decide⟩, by decide, _, SqL.of (s4 _ _ hw), _, ho, hk _ _ ⟨Same.refl _, rfl⟩⟩
      rintro σ H5 ⟨s5, rfl⟩
      have nk5 := notKind.same (s4.trans s5) nk
      refine tSeq_cut (fun σ H' => Same H4 H' ∧ σ = [some (.ref a), some (.int (0 + (i : Int))), some (.int c), some (.str z), some (.int n), some (.ref w), some (.ref b), some o, x8]) (fun nx hk => ?_) ?_
      · walk_at "RD"
        refine ⟨o, _, rfl, .inl ⟨nk5, fun H6 s6 => ⟨rfl, ?_⟩⟩⟩
        rw [if_neg (by simp)]
        refine ⟨o, rfl, notKind.same s6 nk5, fun H7 s7 => ⟨rfl, ?_⟩⟩
        rw [if_neg (by simp)]
        exact hk _ _ ⟨(s5.trans s6).trans s7, rfl⟩
      rintro σ H6 ⟨s6, rfl⟩
      refine tSeq_cut (fun σ H' => Same H4 H' ∧ σ = [some (.ref a), some (.int (0 + (i : Int))), some (.int c), some (.str z), some (.int n), some (.ref w), some (.ref b), some o, some y]) (fun nx hk => ?_) ?_
      · walk_at "RD"
        exact ⟨⟨by decide, by decide⟩, by decide, _, SqL.of (s6 _ _ hb), _, hy, hk _ _ ⟨s6, rfl⟩⟩
      rintro σ H7 ⟨s7, rfl⟩
      refine tSeq_cut (fun σ H' => Same H4 H' ∧ σ = [some (.ref a), some (.int (0 + (i : Int))), some (.int c), some (.str z), some (.int n), some (.ref w), some (.ref b), some o, some y]) (fun nx hk => ?_) ?_
      · walk_at "RD"
        refine ⟨_, y, rfl, .inr ⟨z, hz, rfl, tyB_same s7 yt, ya, fun H8 s8 => ⟨rfl, ?_⟩⟩⟩
        rw [if_neg (by simp)]
        refine ⟨o, y, rfl, .inl ⟨notKind.same (s4.trans (s7.trans s8)) nk, fun H9 s9 => ⟨rfl, ?_⟩⟩⟩
        rw [if_neg (by simp)]
        exact hk _ _ ⟨(s7.trans s8).trans s9, rfl⟩
      rintro σ H8 ⟨s8, rfl⟩
      have up : ∀ {Hx}, Same H8 Hx → Same H Hx := fun s => s0.trans (s3.trans (s4.trans (s8.trans s)))
      walk_at "RD"
      refine ⟨_, _, rfl, .inr (.inr ⟨j, z, n, hj, rfl, rfl, n0, n1, fun p H9 s9 _ hc => ⟨p, j, z, n, rfl, hj, hc, fun H10 s10 => ⟨true, rfl, ?_⟩⟩⟩)⟩
      rw [if_neg (by decide)]
      refine ⟨_, _, rfl, .inr (.inr ⟨j, z, 20, hj, rfl, rfl, by omega, by omega, fun p2 H11 s11 _ hc2 => ⟨p2, j, z, 20, rfl, hj, hc2, fun H12 s12 => ⟨true, rfl, ?_⟩⟩⟩)⟩
      rw [if_neg (by decide)]
      exact ⟨up (s9.trans (s10.trans (s11.trans s12))), _, rfl⟩
    · rintro σ H' ⟨x1, x2, x3, x4, x5, x6, x7, x8, s0, rfl⟩
      walk_at "RD"
      exact hq _
end
theorem all_mk {l : PySem.W.OpenLaw} {w : World} {K : PySem.W.Frag} {h : Heap} {mg : Str → Option Value} {fa : Addr} (X : K.In h) (G : h.Ns mainGlobals mg) (hfa : mg "law" = some (.ref fa))
    {C_Carrier : Addr}
    {C_Cart : Addr}
    {C_Crawler : Addr}
    {C_Runner : Addr}
    {C_BadKind : Addr}
    {C_BadCharge : Addr}
    {C_FloorError : Addr}
    {C_BadFloor : Addr}
    {C_BadCell : Addr}
    {C_BadStops : Addr}
    {C_BadWay : Addr}
    {C_Empty : Addr}
    {C_NoCarrier : Addr}
    {C_NoTask : Addr}
    {C_Meets : Addr}
    {C_Taken : Addr}
    {C_Busy : Addr}
    {C_NoReserve : Addr}
    {C_Closed : Addr}
    {C_Jammed : Addr}
    {K_KINDS : Addr} {kc_KINDS : Option Addr} {kn_KINDS : Nat} {ks_KINDS : Array (Option Value)} {kk_KINDS0 : Tok} {kk_KINDS1 : Tok} {kk_KINDS2 : Tok}
    {f_is_whole : Addr} {od_is_whole an_is_whole : Option Addr} {sl_is_whole : Array (Option Value)} {oc_is_whole kV_is_whole dc_is_whole pm_is_whole cd_is_whole ct_is_whole : Value}
    {f_is_among : Addr} {od_is_among an_is_among : Option Addr} {sl_is_among : Array (Option Value)} {oc_is_among kV_is_among dc_is_among pm_is_among cd_is_among ct_is_among : Value}
    {f_Carrier_init : Addr} {od_Carrier_init an_Carrier_init : Option Addr} {sl_Carrier_init : Array (Option Value)} {oc_Carrier_init kV_Carrier_init dc_Carrier_init pm_Carrier_init cd_Carrier_init ct_Carrier_init : Value}
    {f_Cart_kind : Addr} {od_Cart_kind an_Cart_kind : Option Addr} {sl_Cart_kind : Array (Option Value)} {oc_Cart_kind kV_Cart_kind dc_Cart_kind pm_Cart_kind cd_Cart_kind ct_Cart_kind : Value}
    {f_Crawler_kind : Addr} {od_Crawler_kind an_Crawler_kind : Option Addr} {sl_Crawler_kind : Array (Option Value)} {oc_Crawler_kind kV_Crawler_kind dc_Crawler_kind pm_Crawler_kind cd_Crawler_kind ct_Crawler_kind : Value}
    {f_Runner_kind : Addr} {od_Runner_kind an_Runner_kind : Option Addr} {sl_Runner_kind : Array (Option Value)} {oc_Runner_kind kV_Runner_kind dc_Runner_kind pm_Runner_kind cd_Runner_kind ct_Runner_kind : Value}
    {f_carrier_of : Addr} {od_carrier_of an_carrier_of : Option Addr} {sl_carrier_of : Array (Option Value)} {oc_carrier_of kV_carrier_of dc_carrier_of pm_carrier_of cd_carrier_of ct_carrier_of : Value}
    {dt_carrier_of : Addr} {dd_carrier_of : Option Addr} {dc_carrier_of_ : Value} {dn_carrier_of : Nat} {ds_carrier_of : Array (Option Value)} {td_carrier_of0 : Tok}
    {f_Lat : Addr} {od_Lat an_Lat : Option Addr} {sl_Lat : Array (Option Value)} {oc_Lat kV_Lat dc_Lat pm_Lat cd_Lat ct_Lat : Value}
    {f_Lwhole : Addr} {od_Lwhole an_Lwhole : Option Addr} {sl_Lwhole : Array (Option Value)} {oc_Lwhole kV_Lwhole dc_Lwhole pm_Lwhole cd_Lwhole ct_Lwhole : Value}
    {f_Lword : Addr} {od_Lword an_Lword : Option Addr} {sl_Lword : Array (Option Value)} {oc_Lword kV_Lword dc_Lword pm_Lword cd_Lword ct_Lword : Value}
    {f_Lsaid : Addr} {od_Lsaid an_Lsaid : Option Addr} {sl_Lsaid : Array (Option Value)} {oc_Lsaid kV_Lsaid dc_Lsaid pm_Lsaid cd_Lsaid ct_Lsaid : Value}
    {f_Lalone : Addr} {od_Lalone an_Lalone : Option Addr} {sl_Lalone : Array (Option Value)} {oc_Lalone kV_Lalone dc_Lalone pm_Lalone cd_Lalone ct_Lalone : Value}
    {f_Lright : Addr} {od_Lright an_Lright : Option Addr} {sl_Lright : Array (Option Value)} {oc_Lright kV_Lright dc_Lright pm_Lright cd_Lright ct_Lright : Value}
    {f_law : Addr} {od_law an_law : Option Addr} {sl_law : Array (Option Value)} {oc_law kV_law dc_law pm_law cd_law ct_law : Value}
    {t_MOST_FULL : Tok}
    (aC_Carrier : PySem.W.nsIn K mainGlobals "Carrier" = some (some (.ref C_Carrier)))
    (pg_Carrier : PySem.W.plainGet K C_Carrier Str.empty = true) (hd_Carrier : PySem.W.hasDictIn K C_Carrier = true) (po_Carrier : PySem.W.plainOver K C_Carrier = true) (sa_Carrier : PySem.W.findIn K (.ref C_Carrier) "__setattr__" = some (some (.builtin "object.__setattr__"))) (kc_Carrier : PySem.W.keepIn K (.ref C_Carrier) = true)
    (mk_Carrier : PySem.W.makesIn K C_Carrier = true)
    (n_Carrier_full : PySem.W.findIn K (.ref C_Carrier) "full" = some none)
    (aC_Cart : PySem.W.nsIn K mainGlobals "Cart" = some (some (.ref C_Cart)))
    (pg_Cart : PySem.W.plainGet K C_Cart Str.empty = true) (hd_Cart : PySem.W.hasDictIn K C_Cart = true) (po_Cart : PySem.W.plainOver K C_Cart = true) (sa_Cart : PySem.W.findIn K (.ref C_Cart) "__setattr__" = some (some (.builtin "object.__setattr__"))) (kc_Cart : PySem.W.keepIn K (.ref C_Cart) = true)
    (mk_Cart : PySem.W.makesIn K C_Cart = true)
    (n_Cart_full : PySem.W.findIn K (.ref C_Cart) "full" = some none)
    (aC_Crawler : PySem.W.nsIn K mainGlobals "Crawler" = some (some (.ref C_Crawler)))
    (pg_Crawler : PySem.W.plainGet K C_Crawler Str.empty = true) (hd_Crawler : PySem.W.hasDictIn K C_Crawler = true) (po_Crawler : PySem.W.plainOver K C_Crawler = true) (sa_Crawler : PySem.W.findIn K (.ref C_Crawler) "__setattr__" = some (some (.builtin "object.__setattr__"))) (kc_Crawler : PySem.W.keepIn K (.ref C_Crawler) = true)
    (mk_Crawler : PySem.W.makesIn K C_Crawler = true)
    (n_Crawler_full : PySem.W.findIn K (.ref C_Crawler) "full" = some none)
    (aC_Runner : PySem.W.nsIn K mainGlobals "Runner" = some (some (.ref C_Runner)))
    (pg_Runner : PySem.W.plainGet K C_Runner Str.empty = true) (hd_Runner : PySem.W.hasDictIn K C_Runner = true) (po_Runner : PySem.W.plainOver K C_Runner = true) (sa_Runner : PySem.W.findIn K (.ref C_Runner) "__setattr__" = some (some (.builtin "object.__setattr__"))) (kc_Runner : PySem.W.keepIn K (.ref C_Runner) = true)
    (mk_Runner : PySem.W.makesIn K C_Runner = true)
    (n_Runner_full : PySem.W.findIn K (.ref C_Runner) "full" = some none)
    (aC_BadKind : PySem.W.nsIn K mainGlobals "BadKind" = some (some (.ref C_BadKind))) (er_BadKind : PySem.W.excIn K C_BadKind [.type "ValueError", .type "Exception", .type "BaseException", .type "object"] "ValueError.__new__" = true)
    (aC_BadCharge : PySem.W.nsIn K mainGlobals "BadCharge" = some (some (.ref C_BadCharge))) (er_BadCharge : PySem.W.excIn K C_BadCharge [.type "ValueError", .type "Exception", .type "BaseException", .type "object"] "ValueError.__new__" = true)
    (aC_FloorError : PySem.W.nsIn K mainGlobals "FloorError" = some (some (.ref C_FloorError)))
    (aC_BadFloor : PySem.W.nsIn K mainGlobals "BadFloor" = some (some (.ref C_BadFloor)))
    (aC_BadCell : PySem.W.nsIn K mainGlobals "BadCell" = some (some (.ref C_BadCell)))
    (aC_BadStops : PySem.W.nsIn K mainGlobals "BadStops" = some (some (.ref C_BadStops)))
    (aC_BadWay : PySem.W.nsIn K mainGlobals "BadWay" = some (some (.ref C_BadWay)))
    (aC_Empty : PySem.W.nsIn K mainGlobals "Empty" = some (some (.ref C_Empty)))
    (aC_NoCarrier : PySem.W.nsIn K mainGlobals "NoCarrier" = some (some (.ref C_NoCarrier)))
    (aC_NoTask : PySem.W.nsIn K mainGlobals "NoTask" = some (some (.ref C_NoTask)))
    (aC_Meets : PySem.W.nsIn K mainGlobals "Meets" = some (some (.ref C_Meets)))
    (aC_Taken : PySem.W.nsIn K mainGlobals "Taken" = some (some (.ref C_Taken)))
    (aC_Busy : PySem.W.nsIn K mainGlobals "Busy" = some (some (.ref C_Busy)))
    (aC_NoReserve : PySem.W.nsIn K mainGlobals "NoReserve" = some (some (.ref C_NoReserve)))
    (aC_Closed : PySem.W.nsIn K mainGlobals "Closed" = some (some (.ref C_Closed)))
    (aC_Jammed : PySem.W.nsIn K mainGlobals "Jammed" = some (some (.ref C_Jammed)))
    (xm_BadKind_FloorError : PySem.W.exmOne K (.ref C_BadKind) (.ref C_FloorError) = some true)
    (xm_BadCharge_FloorError : PySem.W.exmOne K (.ref C_BadCharge) (.ref C_FloorError) = some true)
    (x_KINDS : PySem.W.nsIn K mainGlobals "KINDS" = some (some (.ref K_KINDS))) (lk_KINDS : K.lookup K_KINDS = some ⟨.type "tuple", kc_KINDS, .seq #[.str (Str.ofString "cart") kk_KINDS0, .str (Str.ofString "crawler") kk_KINDS1, .str (Str.ofString "runner") kk_KINDS2] kn_KINDS, ks_KINDS⟩)
    (is_BadKind_BadFloor : PySem.W.kitOne K (.ref C_BadKind) (.ref C_BadFloor) = some false)
    (is_BadKind_BadKind : PySem.W.kitOne K (.ref C_BadKind) (.ref C_BadKind) = some true)
    (is_BadKind_BadCell : PySem.W.kitOne K (.ref C_BadKind) (.ref C_BadCell) = some false)
    (is_BadKind_BadCharge : PySem.W.kitOne K (.ref C_BadKind) (.ref C_BadCharge) = some false)
    (is_BadKind_BadStops : PySem.W.kitOne K (.ref C_BadKind) (.ref C_BadStops) = some false)
    (is_BadKind_BadWay : PySem.W.kitOne K (.ref C_BadKind) (.ref C_BadWay) = some false)
    (is_BadKind_Empty : PySem.W.kitOne K (.ref C_BadKind) (.ref C_Empty) = some false)
    (is_BadKind_NoCarrier : PySem.W.kitOne K (.ref C_BadKind) (.ref C_NoCarrier) = some false)
    (is_BadKind_NoTask : PySem.W.kitOne K (.ref C_BadKind) (.ref C_NoTask) = some false)
    (is_BadKind_Meets : PySem.W.kitOne K (.ref C_BadKind) (.ref C_Meets) = some false)
    (is_BadKind_Taken : PySem.W.kitOne K (.ref C_BadKind) (.ref C_Taken) = some false)
    (is_BadKind_Busy : PySem.W.kitOne K (.ref C_BadKind) (.ref C_Busy) = some false)
    (is_BadKind_NoReserve : PySem.W.kitOne K (.ref C_BadKind) (.ref C_NoReserve) = some false)
    (is_BadKind_Closed : PySem.W.kitOne K (.ref C_BadKind) (.ref C_Closed) = some false)
    (is_BadKind_Jammed : PySem.W.kitOne K (.ref C_BadKind) (.ref C_Jammed) = some false)
    (is_BadKind_FloorError : PySem.W.kitOne K (.ref C_BadKind) (.ref C_FloorError) = some true)
    (is_BadKind_ValueError : PySem.W.kitOne K (.ref C_BadKind) (.type "ValueError") = some true)
    (ga_BadKind : PySem.W.findIn K (.ref C_BadKind) "__getattribute__" = some (some (.builtin "BaseException.__getattribute__")))
    (gn_BadKind : PySem.W.findIn K (.ref C_BadKind) "__getattr__" = some none)
    (bx_BadKind : PySem.W.mroIn K C_BadKind (.type "BaseException") = some true)
    (cl_BadKind : (PySem.W.clsIn K C_BadKind).isSome = true)
    (ca_BadKind : PySem.W.findIn K (.ref C_BadKind) "__class__" = some (some (.builtin "object.__class__")))
    (cm_BadKind : PySem.W.mroIn K C_BadKind (.type "object") = some true)
    (is_BadCharge_BadFloor : PySem.W.kitOne K (.ref C_BadCharge) (.ref C_BadFloor) = some false)
    (is_BadCharge_BadKind : PySem.W.kitOne K (.ref C_BadCharge) (.ref C_BadKind) = some false)
    (is_BadCharge_BadCell : PySem.W.kitOne K (.ref C_BadCharge) (.ref C_BadCell) = some false)
    (is_BadCharge_BadCharge : PySem.W.kitOne K (.ref C_BadCharge) (.ref C_BadCharge) = some true)
    (is_BadCharge_BadStops : PySem.W.kitOne K (.ref C_BadCharge) (.ref C_BadStops) = some false)
    (is_BadCharge_BadWay : PySem.W.kitOne K (.ref C_BadCharge) (.ref C_BadWay) = some false)
    (is_BadCharge_Empty : PySem.W.kitOne K (.ref C_BadCharge) (.ref C_Empty) = some false)
    (is_BadCharge_NoCarrier : PySem.W.kitOne K (.ref C_BadCharge) (.ref C_NoCarrier) = some false)
    (is_BadCharge_NoTask : PySem.W.kitOne K (.ref C_BadCharge) (.ref C_NoTask) = some false)
    (is_BadCharge_Meets : PySem.W.kitOne K (.ref C_BadCharge) (.ref C_Meets) = some false)
    (is_BadCharge_Taken : PySem.W.kitOne K (.ref C_BadCharge) (.ref C_Taken) = some false)
    (is_BadCharge_Busy : PySem.W.kitOne K (.ref C_BadCharge) (.ref C_Busy) = some false)
    (is_BadCharge_NoReserve : PySem.W.kitOne K (.ref C_BadCharge) (.ref C_NoReserve) = some false)
    (is_BadCharge_Closed : PySem.W.kitOne K (.ref C_BadCharge) (.ref C_Closed) = some false)
    (is_BadCharge_Jammed : PySem.W.kitOne K (.ref C_BadCharge) (.ref C_Jammed) = some false)
    (is_BadCharge_FloorError : PySem.W.kitOne K (.ref C_BadCharge) (.ref C_FloorError) = some true)
    (is_BadCharge_ValueError : PySem.W.kitOne K (.ref C_BadCharge) (.type "ValueError") = some true)
    (ga_BadCharge : PySem.W.findIn K (.ref C_BadCharge) "__getattribute__" = some (some (.builtin "BaseException.__getattribute__")))
    (gn_BadCharge : PySem.W.findIn K (.ref C_BadCharge) "__getattr__" = some none)
    (bx_BadCharge : PySem.W.mroIn K C_BadCharge (.type "BaseException") = some true)
    (cl_BadCharge : (PySem.W.clsIn K C_BadCharge).isSome = true)
    (ca_BadCharge : PySem.W.findIn K (.ref C_BadCharge) "__class__" = some (some (.builtin "object.__class__")))
    (cm_BadCharge : PySem.W.mroIn K C_BadCharge (.type "object") = some true)
    (cgx : PySem.W.specialIn K (.builtin "object.__class__") "__get__" = some (some (.builtin "getset_descriptor.__get__")))
    (ctx : PySem.W.takesIn K (.builtin "object.__class__") = some true)
    (ca_Cart : PySem.W.findIn K (.ref C_Cart) "__class__" = some (some (.builtin "object.__class__")))
    (cm_Cart : PySem.W.mroIn K C_Cart (.type "object") = some true)
    (is_Cart_Carrier : PySem.W.kitOne K (.ref C_Cart) (.ref C_Carrier) = some true)
    (is_Cart_Cart : PySem.W.kitOne K (.ref C_Cart) (.ref C_Cart) = some true)
    (is_Cart_Crawler : PySem.W.kitOne K (.ref C_Cart) (.ref C_Crawler) = some false)
    (is_Cart_Runner : PySem.W.kitOne K (.ref C_Cart) (.ref C_Runner) = some false)
    (ca_Crawler : PySem.W.findIn K (.ref C_Crawler) "__class__" = some (some (.builtin "object.__class__")))
    (cm_Crawler : PySem.W.mroIn K C_Crawler (.type "object") = some true)
    (is_Crawler_Carrier : PySem.W.kitOne K (.ref C_Crawler) (.ref C_Carrier) = some true)
    (is_Crawler_Cart : PySem.W.kitOne K (.ref C_Crawler) (.ref C_Cart) = some false)
    (is_Crawler_Crawler : PySem.W.kitOne K (.ref C_Crawler) (.ref C_Crawler) = some true)
    (is_Crawler_Runner : PySem.W.kitOne K (.ref C_Crawler) (.ref C_Runner) = some false)
    (ca_Runner : PySem.W.findIn K (.ref C_Runner) "__class__" = some (some (.builtin "object.__class__")))
    (cm_Runner : PySem.W.mroIn K C_Runner (.type "object") = some true)
    (is_Runner_Carrier : PySem.W.kitOne K (.ref C_Runner) (.ref C_Carrier) = some true)
    (is_Runner_Cart : PySem.W.kitOne K (.ref C_Runner) (.ref C_Cart) = some false)
    (is_Runner_Crawler : PySem.W.kitOne K (.ref C_Runner) (.ref C_Crawler) = some false)
    (is_Runner_Runner : PySem.W.kitOne K (.ref C_Runner) (.ref C_Runner) = some true)
    (a_is_whole : PySem.W.nsIn K mainGlobals "is_whole" = some (some (.ref f_is_whole)))
    (l_is_whole : K.lookup f_is_whole = some ⟨oc_is_whole, od_is_whole, .func (PySem.W.fnOf "is_whole" "is_whole" (defArgs s_is_whole) (defBody s_is_whole) (defScope s_is_whole) .none kV_is_whole dc_is_whole pm_is_whole an_is_whole cd_is_whole ct_is_whole), sl_is_whole⟩) (c_is_whole : PySem.W.codeIn K cd_is_whole "is_whole" = true) (k_is_whole : PySem.W.keepIn K (.ref f_is_whole) = true)
    (a_is_among : PySem.W.nsIn K mainGlobals "is_among" = some (some (.ref f_is_among)))
    (l_is_among : K.lookup f_is_among = some ⟨oc_is_among, od_is_among, .func (PySem.W.fnOf "is_among" "is_among" (defArgs s_is_among) (defBody s_is_among) (defScope s_is_among) .none kV_is_among dc_is_among pm_is_among an_is_among cd_is_among ct_is_among), sl_is_among⟩) (c_is_among : PySem.W.codeIn K cd_is_among "is_among" = true) (k_is_among : PySem.W.keepIn K (.ref f_is_among) = true)
    (a_Carrier_init : PySem.W.findIn K (.ref C_Carrier) "__init__" = some (some (.ref f_Carrier_init))) (i_Carrier_init : PySem.W.isFn K (.ref f_Carrier_init) = true)
    (l_Carrier_init : K.lookup f_Carrier_init = some ⟨oc_Carrier_init, od_Carrier_init, .func (PySem.W.fnOf "__init__" "Carrier.__init__" (defArgs s_Carrier_init) (defBody s_Carrier_init) (defScope s_Carrier_init) .none kV_Carrier_init dc_Carrier_init pm_Carrier_init an_Carrier_init cd_Carrier_init ct_Carrier_init), sl_Carrier_init⟩) (c_Carrier_init : PySem.W.codeIn K cd_Carrier_init "Carrier.__init__" = true) (k_Carrier_init : PySem.W.keepIn K (.ref f_Carrier_init) = true)
    (a_Cart_kind : PySem.W.findIn K (.ref C_Cart) "kind" = some (some (.ref f_Cart_kind))) (i_Cart_kind : PySem.W.isFn K (.ref f_Cart_kind) = true)
    (l_Cart_kind : K.lookup f_Cart_kind = some ⟨oc_Cart_kind, od_Cart_kind, .func (PySem.W.fnOf "kind" "Cart.kind" (defArgs s_Cart_kind) (defBody s_Cart_kind) (defScope s_Cart_kind) .none kV_Cart_kind dc_Cart_kind pm_Cart_kind an_Cart_kind cd_Cart_kind ct_Cart_kind), sl_Cart_kind⟩) (c_Cart_kind : PySem.W.codeIn K cd_Cart_kind "Cart.kind" = true) (k_Cart_kind : PySem.W.keepIn K (.ref f_Cart_kind) = true)
    (a_Crawler_kind : PySem.W.findIn K (.ref C_Crawler) "kind" = some (some (.ref f_Crawler_kind))) (i_Crawler_kind : PySem.W.isFn K (.ref f_Crawler_kind) = true)
    (l_Crawler_kind : K.lookup f_Crawler_kind = some ⟨oc_Crawler_kind, od_Crawler_kind, .func (PySem.W.fnOf "kind" "Crawler.kind" (defArgs s_Crawler_kind) (defBody s_Crawler_kind) (defScope s_Crawler_kind) .none kV_Crawler_kind dc_Crawler_kind pm_Crawler_kind an_Crawler_kind cd_Crawler_kind ct_Crawler_kind), sl_Crawler_kind⟩) (c_Crawler_kind : PySem.W.codeIn K cd_Crawler_kind "Crawler.kind" = true) (k_Crawler_kind : PySem.W.keepIn K (.ref f_Crawler_kind) = true)
    (a_Runner_kind : PySem.W.findIn K (.ref C_Runner) "kind" = some (some (.ref f_Runner_kind))) (i_Runner_kind : PySem.W.isFn K (.ref f_Runner_kind) = true)
    (l_Runner_kind : K.lookup f_Runner_kind = some ⟨oc_Runner_kind, od_Runner_kind, .func (PySem.W.fnOf "kind" "Runner.kind" (defArgs s_Runner_kind) (defBody s_Runner_kind) (defScope s_Runner_kind) .none kV_Runner_kind dc_Runner_kind pm_Runner_kind an_Runner_kind cd_Runner_kind ct_Runner_kind), sl_Runner_kind⟩) (c_Runner_kind : PySem.W.codeIn K cd_Runner_kind "Runner.kind" = true) (k_Runner_kind : PySem.W.keepIn K (.ref f_Runner_kind) = true)
    (a_carrier_of : PySem.W.nsIn K mainGlobals "carrier_of" = some (some (.ref f_carrier_of)))
    (l_carrier_of : K.lookup f_carrier_of = some ⟨oc_carrier_of, od_carrier_of, .func (PySem.W.fnOf "carrier_of" "carrier_of" (defArgs s_carrier_of) (defBody s_carrier_of) (defScope s_carrier_of) (.ref dt_carrier_of) kV_carrier_of dc_carrier_of pm_carrier_of an_carrier_of cd_carrier_of ct_carrier_of), sl_carrier_of⟩) (c_carrier_of : PySem.W.codeIn K cd_carrier_of "carrier_of" = true) (k_carrier_of : PySem.W.keepIn K (.ref f_carrier_of) = true)
    (df_carrier_of : K.lookup dt_carrier_of = some ⟨dc_carrier_of_, dd_carrier_of, .seq #[.int 20 td_carrier_of0] dn_carrier_of, ds_carrier_of⟩)
    (a_Lat : PySem.W.nsIn K mainGlobals "_law_at" = some (some (.ref f_Lat)))
    (l_Lat : K.lookup f_Lat = some ⟨oc_Lat, od_Lat, .func (PySem.W.fnOf "_law_at" "_law_at" (defArgs s_Lat) (defBody s_Lat) (defScope s_Lat) .none kV_Lat dc_Lat pm_Lat an_Lat cd_Lat ct_Lat), sl_Lat⟩) (c_Lat : PySem.W.codeIn K cd_Lat "_law_at" = true) (k_Lat : PySem.W.keepIn K (.ref f_Lat) = true)
    (a_Lwhole : PySem.W.nsIn K mainGlobals "_law_whole" = some (some (.ref f_Lwhole)))
    (l_Lwhole : K.lookup f_Lwhole = some ⟨oc_Lwhole, od_Lwhole, .func (PySem.W.fnOf "_law_whole" "_law_whole" (defArgs s_Lwhole) (defBody s_Lwhole) (defScope s_Lwhole) .none kV_Lwhole dc_Lwhole pm_Lwhole an_Lwhole cd_Lwhole ct_Lwhole), sl_Lwhole⟩) (c_Lwhole : PySem.W.codeIn K cd_Lwhole "_law_whole" = true) (k_Lwhole : PySem.W.keepIn K (.ref f_Lwhole) = true)
    (a_Lword : PySem.W.nsIn K mainGlobals "_law_word" = some (some (.ref f_Lword)))
    (l_Lword : K.lookup f_Lword = some ⟨oc_Lword, od_Lword, .func (PySem.W.fnOf "_law_word" "_law_word" (defArgs s_Lword) (defBody s_Lword) (defScope s_Lword) .none kV_Lword dc_Lword pm_Lword an_Lword cd_Lword ct_Lword), sl_Lword⟩) (c_Lword : PySem.W.codeIn K cd_Lword "_law_word" = true) (k_Lword : PySem.W.keepIn K (.ref f_Lword) = true)
    (a_Lsaid : PySem.W.nsIn K mainGlobals "_law_said" = some (some (.ref f_Lsaid)))
    (l_Lsaid : K.lookup f_Lsaid = some ⟨oc_Lsaid, od_Lsaid, .func (PySem.W.fnOf "_law_said" "_law_said" (defArgs s_Lsaid) (defBody s_Lsaid) (defScope s_Lsaid) .none kV_Lsaid dc_Lsaid pm_Lsaid an_Lsaid cd_Lsaid ct_Lsaid), sl_Lsaid⟩) (c_Lsaid : PySem.W.codeIn K cd_Lsaid "_law_said" = true) (k_Lsaid : PySem.W.keepIn K (.ref f_Lsaid) = true)
    (a_Lalone : PySem.W.nsIn K mainGlobals "_law_alone" = some (some (.ref f_Lalone)))
    (l_Lalone : K.lookup f_Lalone = some ⟨oc_Lalone, od_Lalone, .func (PySem.W.fnOf "_law_alone" "_law_alone" (defArgs s_Lalone) (defBody s_Lalone) (defScope s_Lalone) .none kV_Lalone dc_Lalone pm_Lalone an_Lalone cd_Lalone ct_Lalone), sl_Lalone⟩) (c_Lalone : PySem.W.codeIn K cd_Lalone "_law_alone" = true) (k_Lalone : PySem.W.keepIn K (.ref f_Lalone) = true)
    (a_Lright : PySem.W.nsIn K mainGlobals "_law_right" = some (some (.ref f_Lright)))
    (l_Lright : K.lookup f_Lright = some ⟨oc_Lright, od_Lright, .func (PySem.W.fnOf "_law_right" "_law_right" (defArgs s_Lright) (defBody s_Lright) (defScope s_Lright) .none kV_Lright dc_Lright pm_Lright an_Lright cd_Lright ct_Lright), sl_Lright⟩) (c_Lright : PySem.W.codeIn K cd_Lright "_law_right" = true) (k_Lright : PySem.W.keepIn K (.ref f_Lright) = true)
    (a_law : PySem.W.nsIn K mainGlobals "law" = some (some (.ref f_law)))
    (l_law : K.lookup f_law = some ⟨oc_law, od_law, .func (PySem.W.fnOf "law" "law" (defArgs s_law) (defBody s_law) (defScope s_law) .none kV_law dc_law pm_law an_law cd_law ct_law), sl_law⟩) (c_law : PySem.W.codeIn K cd_law "law" = true) (k_law : PySem.W.keepIn K (.ref f_law) = true)
    (as_Cart_init : PySem.W.findIn K (.ref C_Cart) "__init__" = some (some (.ref f_Carrier_init)))
    (as_Crawler_init : PySem.W.findIn K (.ref C_Crawler) "__init__" = some (some (.ref f_Carrier_init)))
    (as_Runner_init : PySem.W.findIn K (.ref C_Runner) "__init__" = some (some (.ref f_Carrier_init)))
    (z_len : PySem.W.nsIn K mainGlobals "len" = some none)
    (z_range : PySem.W.nsIn K mainGlobals "range" = some none)
    (z_isinstance : PySem.W.nsIn K mainGlobals "isinstance" = some none)
    (z_int : PySem.W.nsIn K mainGlobals "int" = some none)
    (z_bool : PySem.W.nsIn K mainGlobals "bool" = some none)
    (z_str : PySem.W.nsIn K mainGlobals "str" = some none)
    (z_ValueError : PySem.W.nsIn K mainGlobals "ValueError" = some none)
    (x_MOST_FULL : PySem.W.nsIn K mainGlobals "MOST_FULL" = some (some (.int 60 t_MOST_FULL)))
    : ∃ fd : FuncData, (∀ (s : Shared) (v : Value), BindsTo s fd ⟨[v], []⟩ [("_law_script", v)]) ∧ ∀ base : Heap, K.In base → base.Ns mainGlobals mg → FnOk l.prog w K mg base CX0 5 fa fd ["_law_script"] (spLaw K) := by
  obtain rfl : f_law = fa := by
    have e := hfa.symm.trans (PySem.W.mg_of X G a_law)
    cases e
    rfl
  have T : Txt K mg ⟨f_is_whole, f_is_among, f_Carrier_init, f_Cart_kind, f_Crawler_kind, f_Runner_kind, f_carrier_of, f_Lat, f_Lwhole, f_Lword, f_Lsaid, f_Lalone, f_Lright, f_law, C_Carrier, C_Cart, C_Crawler, C_Runner, C_BadKind, C_BadCharge, C_FloorError, C_BadFloor, C_BadCell, C_BadStops, C_BadWay, C_Empty, C_NoCarrier, C_NoTask, C_Meets, C_Taken, C_Busy, C_NoReserve, C_Closed, C_Jammed, K_KINDS⟩ := by
    constructor
    · exact PySem.W.mg_none_of X G z_len
    · exact PySem.W.mg_none_of X G z_range
    · exact PySem.W.mg_none_of X G z_isinstance
    · exact PySem.W.mg_none_of X G z_int
    · exact PySem.W.mg_none_of X G z_bool
    · exact PySem.W.mg_none_of X G z_str
    · exact PySem.W.mg_none_of X G z_ValueError
    · exact ⟨_, PySem.W.mg_of X G x_KINDS, rfl⟩
    · exact ⟨_, PySem.W.mg_of X G x_MOST_FULL, ⟨_, rfl⟩⟩
    · exact PySem.W.mg_of X G a_is_whole
    · exact k_is_whole
    · exact PySem.W.mg_of X G a_is_among
    · exact k_is_among
    · exact ⟨a_Cart_kind, i_Cart_kind, k_Cart_kind⟩
    · exact ⟨a_Crawler_kind, i_Crawler_kind, k_Crawler_kind⟩
    · exact ⟨a_Runner_kind, i_Runner_kind, k_Runner_kind⟩
    · exact PySem.W.mg_of X G a_carrier_of
    · exact k_carrier_of
    · exact PySem.W.mg_of X G a_Lat
    · exact k_Lat
    · exact PySem.W.mg_of X G a_Lwhole
    · exact k_Lwhole
    · exact PySem.W.mg_of X G a_Lword
    · exact k_Lword
    · exact PySem.W.mg_of X G a_Lsaid
    · exact k_Lsaid
    · exact PySem.W.mg_of X G a_Lalone
    · exact k_Lalone
    · exact PySem.W.mg_of X G a_Lright
    · exact k_Lright
    · exact PySem.W.mg_of X G a_law
    · exact k_law
    · exact PySem.W.mg_of X G aC_Carrier
    · exact ⟨pg_Carrier, hd_Carrier, po_Carrier, sa_Carrier⟩
    · exact n_Carrier_full
    · exact ⟨mk_Carrier, a_Carrier_init, i_Carrier_init, kc_Carrier⟩
    · exact PySem.W.mg_of X G aC_Cart
    · exact ⟨pg_Cart, hd_Cart, po_Cart, sa_Cart⟩
    · exact n_Cart_full
    · exact ⟨mk_Cart, as_Cart_init, i_Carrier_init, kc_Cart⟩
    · exact PySem.W.mg_of X G aC_Crawler
    · exact ⟨pg_Crawler, hd_Crawler, po_Crawler, sa_Crawler⟩
    · exact n_Crawler_full
    · exact ⟨mk_Crawler, as_Crawler_init, i_Carrier_init, kc_Crawler⟩
    · exact PySem.W.mg_of X G aC_Runner
    · exact ⟨pg_Runner, hd_Runner, po_Runner, sa_Runner⟩
    · exact n_Runner_full
    · exact ⟨mk_Runner, as_Runner_init, i_Carrier_init, kc_Runner⟩
    · exact PySem.W.mg_of X G aC_BadKind
    · exact ⟨er_BadKind⟩
    · exact PySem.W.mg_of X G aC_BadCharge
    · exact ⟨er_BadCharge⟩
    · exact PySem.W.mg_of X G aC_FloorError
    · exact PySem.W.mg_of X G aC_BadFloor
    · exact PySem.W.mg_of X G aC_BadCell
    · exact PySem.W.mg_of X G aC_BadStops
    · exact PySem.W.mg_of X G aC_BadWay
    · exact PySem.W.mg_of X G aC_Empty
    · exact PySem.W.mg_of X G aC_NoCarrier
    · exact PySem.W.mg_of X G aC_NoTask
    · exact PySem.W.mg_of X G aC_Meets
    · exact PySem.W.mg_of X G aC_Taken
    · exact PySem.W.mg_of X G aC_Busy
    · exact PySem.W.mg_of X G aC_NoReserve
    · exact PySem.W.mg_of X G aC_Closed
    · exact PySem.W.mg_of X G aC_Jammed
    · exact xm_BadKind_FloorError
    · exact xm_BadCharge_FloorError
    · exact is_BadKind_BadFloor
    · exact is_BadKind_BadKind
    · exact is_BadKind_BadCell
    · exact is_BadKind_BadCharge
    · exact is_BadKind_BadStops
    · exact is_BadKind_BadWay
    · exact is_BadKind_Empty
    · exact is_BadKind_NoCarrier
    · exact is_BadKind_NoTask
    · exact is_BadKind_Meets
    · exact is_BadKind_Taken
    · exact is_BadKind_Busy
    · exact is_BadKind_NoReserve
    · exact is_BadKind_Closed
    · exact is_BadKind_Jammed
    · exact is_BadKind_FloorError
    · exact is_BadKind_ValueError
    · exact ga_BadKind
    · exact gn_BadKind
    · exact bx_BadKind
    · exact cl_BadKind
    · exact ca_BadKind
    · exact cm_BadKind
    · exact is_BadCharge_BadFloor
    · exact is_BadCharge_BadKind
    · exact is_BadCharge_BadCell
    · exact is_BadCharge_BadCharge
    · exact is_BadCharge_BadStops
    · exact is_BadCharge_BadWay
    · exact is_BadCharge_Empty
    · exact is_BadCharge_NoCarrier
    · exact is_BadCharge_NoTask
    · exact is_BadCharge_Meets
    · exact is_BadCharge_Taken
    · exact is_BadCharge_Busy
    · exact is_BadCharge_NoReserve
    · exact is_BadCharge_Closed
    · exact is_BadCharge_Jammed
    · exact is_BadCharge_FloorError
    · exact is_BadCharge_ValueError
    · exact ga_BadCharge
    · exact gn_BadCharge
    · exact bx_BadCharge
    · exact cl_BadCharge
    · exact ca_BadCharge
    · exact cm_BadCharge
    · exact cgx
    · exact ctx
    · exact ca_Cart
    · exact cm_Cart
    · exact is_Cart_Carrier
    · exact is_Cart_Cart
    · exact is_Cart_Crawler
    · exact is_Cart_Runner
    · exact ca_Crawler
    · exact cm_Crawler
    · exact is_Crawler_Carrier
    · exact is_Crawler_Cart
    · exact is_Crawler_Crawler
    · exact is_Crawler_Runner
    · exact ca_Runner
    · exact cm_Runner
    · exact is_Runner_Carrier
    · exact is_Runner_Cart
    · exact is_Runner_Crawler
    · exact is_Runner_Runner
    · exact fun H => .inr ⟨_, _, _, lk_KINDS, rfl, rfl, (show (3 : Nat) ≤ sizeLine by rw [sizeLine_eq]; decide), .cons ⟨_, rfl⟩ (.cons ⟨_, rfl⟩ (.cons ⟨_, rfl⟩  .nil))⟩
  have F_is_whole := fun_mk (st := s_is_whole) l_is_whole c_is_whole k_is_whole
  have B_is_whole := F_is_whole.binds (ps := ["thing"]) fun _ _ _ _ _ _ us hl => match us, hl with | [_], _ => rfl
  have F_is_among := fun_mk (st := s_is_among) l_is_among c_is_among k_is_among
  have B_is_among := F_is_among.binds (ps := ["thing", "least", "most"]) fun _ _ _ _ _ _ us hl => match us, hl with | [_, _, _], _ => rfl
  have F_Carrier_init := fun_mk (st := s_Carrier_init) l_Carrier_init c_Carrier_init k_Carrier_init
  have B_Carrier_init := F_Carrier_init.binds (ps := ["self", "full"]) fun _ _ _ _ _ _ us hl => match us, hl with | [_, _], _ => rfl
  have F_Cart_kind := fun_mk (st := s_Cart_kind) l_Cart_kind c_Cart_kind k_Cart_kind
  have B_Cart_kind := F_Cart_kind.binds (ps := ["self"]) fun _ _ _ _ _ _ us hl => match us, hl with | [_], _ => rfl
  have F_Crawler_kind := fun_mk (st := s_Crawler_kind) l_Crawler_kind c_Crawler_kind k_Crawler_kind
  have B_Crawler_kind := F_Crawler_kind.binds (ps := ["self"]) fun _ _ _ _ _ _ us hl => match us, hl with | [_], _ => rfl
  have F_Runner_kind := fun_mk (st := s_Runner_kind) l_Runner_kind c_Runner_kind k_Runner_kind
  have B_Runner_kind := F_Runner_kind.binds (ps := ["self"]) fun _ _ _ _ _ _ us hl => match us, hl with | [_], _ => rfl
  have F_carrier_of := funD_mk (st := s_carrier_of) l_carrier_of c_carrier_of k_carrier_of df_carrier_of
  have B_carrier_of := F_carrier_of.binds (ps := ["kind", "full"]) (ds := []) fun _ _ _ _ _ _ _ us hl => match us, hl with | [_, _], _ => ⟨_, rfl, rfl⟩
  have BD_carrier_of := F_carrier_of.binds (ps := ["kind", "full"]) (ds := [.int 20 td_carrier_of0]) fun _ _ _ _ _ _ _ us hl => match us, hl with | [], hl => by simp at hl | [_], _ => ⟨_, rfl, rfl⟩ | (_ :: _ :: _), hl => by simp at hl
  have F_Lat := fun_mk (st := s_Lat) l_Lat c_Lat k_Lat
  have B_Lat := F_Lat.binds (ps := ["_law_script", "_law_k"]) fun _ _ _ _ _ _ us hl => match us, hl with | [_, _], _ => rfl
  have F_Lwhole := fun_mk (st := s_Lwhole) l_Lwhole c_Lwhole k_Lwhole
  have B_Lwhole := F_Lwhole.binds (ps := ["_law_thing"]) fun _ _ _ _ _ _ us hl => match us, hl with | [_], _ => rfl
  have F_Lword := fun_mk (st := s_Lword) l_Lword c_Lword k_Lword
  have B_Lword := F_Lword.binds (ps := ["_law_error"]) fun _ _ _ _ _ _ us hl => match us, hl with | [_], _ => rfl
  have F_Lsaid := fun_mk (st := s_Lsaid) l_Lsaid c_Lsaid k_Lsaid
  have B_Lsaid := F_Lsaid.binds (ps := ["_law_kind", "_law_full"]) fun _ _ _ _ _ _ us hl => match us, hl with | [_, _], _ => rfl
  have F_Lalone := fun_mk (st := s_Lalone) l_Lalone c_Lalone k_Lalone
  have B_Lalone := F_Lalone.binds (ps := ["_law_kind"]) fun _ _ _ _ _ _ us hl => match us, hl with | [_], _ => rfl
  have F_Lright := fun_mk (st := s_Lright) l_Lright c_Lright k_Lright
  have B_Lright := F_Lright.binds (ps := ["_law_one", "_law_kind", "_law_full"]) fun _ _ _ _ _ _ us hl => match us, hl with | [_, _, _], _ => rfl
  have F_law := fun_mk (st := s_law) l_law c_law k_law
  refine ⟨PySem.W.fnOf "law" "law" (defArgs s_law) (defBody s_law) (defScope s_law) .none kV_law dc_law pm_law an_law cd_law ct_law, ?bd, fun base _ _ => ?fn⟩
  case fn =>
    have G_is_whole : FnOk l.prog w K mg base CX0 1 f_is_whole _ ["thing"] (spWhole K) := ok_is_whole (ad := ⟨f_is_whole, f_is_among, f_Carrier_init, f_Cart_kind, f_Crawler_kind, f_Runner_kind, f_carrier_of, f_Lat, f_Lwhole, f_Lword, f_Lsaid, f_Lalone, f_Lright, f_law, C_Carrier, C_Cart, C_Crawler, C_Runner, C_BadKind, C_BadCharge, C_FloorError, C_BadFloor, C_BadCell, C_BadStops, C_BadWay, C_Empty, C_NoCarrier, C_NoTask, C_Meets, C_Taken, C_Busy, C_NoReserve, C_Closed, C_Jammed, K_KINDS⟩) F_is_whole T
    have G_is_among : FnOk l.prog w K mg base CX0 2 f_is_among _ ["thing", "least", "most"] (spAmong K) := ok_is_among (ad := ⟨f_is_whole, f_is_among, f_Carrier_init, f_Cart_kind, f_Crawler_kind, f_Runner_kind, f_carrier_of, f_Lat, f_Lwhole, f_Lword, f_Lsaid, f_Lalone, f_Lright, f_law, C_Carrier, C_Cart, C_Crawler, C_Runner, C_BadKind, C_BadCharge, C_FloorError, C_BadFloor, C_BadCell, C_BadStops, C_BadWay, C_Empty, C_NoCarrier, C_NoTask, C_Meets, C_Taken, C_Busy, C_NoReserve, C_Closed, C_Jammed, K_KINDS⟩) F_is_among T B_is_whole G_is_whole
    have G_Carrier_init : FnOk l.prog w K mg base CX0 1 f_Carrier_init _ ["self", "full"] (spInitA (⟨f_is_whole, f_is_among, f_Carrier_init, f_Cart_kind, f_Crawler_kind, f_Runner_kind, f_carrier_of, f_Lat, f_Lwhole, f_Lword, f_Lsaid, f_Lalone, f_Lright, f_law, C_Carrier, C_Cart, C_Crawler, C_Runner, C_BadKind, C_BadCharge, C_FloorError, C_BadFloor, C_BadCell, C_BadStops, C_BadWay, C_Empty, C_NoCarrier, C_NoTask, C_Meets, C_Taken, C_Busy, C_NoReserve, C_Closed, C_Jammed, K_KINDS⟩ : Ad)) := ok_Carrier_init (ad := ⟨f_is_whole, f_is_among, f_Carrier_init, f_Cart_kind, f_Crawler_kind, f_Runner_kind, f_carrier_of, f_Lat, f_Lwhole, f_Lword, f_Lsaid, f_Lalone, f_Lright, f_law, C_Carrier, C_Cart, C_Crawler, C_Runner, C_BadKind, C_BadCharge, C_FloorError, C_BadFloor, C_BadCell, C_BadStops, C_BadWay, C_Empty, C_NoCarrier, C_NoTask, C_Meets, C_Taken, C_Busy, C_NoReserve, C_Closed, C_Jammed, K_KINDS⟩) F_Carrier_init T
    have G_Cart_kind : FnOk l.prog w K mg base CX0 1 f_Cart_kind _ ["self"] (spKind "cart") := ok_Cart_kind (ad := ⟨f_is_whole, f_is_among, f_Carrier_init, f_Cart_kind, f_Crawler_kind, f_Runner_kind, f_carrier_of, f_Lat, f_Lwhole, f_Lword, f_Lsaid, f_Lalone, f_Lright, f_law, C_Carrier, C_Cart, C_Crawler, C_Runner, C_BadKind, C_BadCharge, C_FloorError, C_BadFloor, C_BadCell, C_BadStops, C_BadWay, C_Empty, C_NoCarrier, C_NoTask, C_Meets, C_Taken, C_Busy, C_NoReserve, C_Closed, C_Jammed, K_KINDS⟩) F_Cart_kind T
    have G_Crawler_kind : FnOk l.prog w K mg base CX0 1 f_Crawler_kind _ ["self"] (spKind "crawler") := ok_Crawler_kind (ad := ⟨f_is_whole, f_is_among, f_Carrier_init, f_Cart_kind, f_Crawler_kind, f_Runner_kind, f_carrier_of, f_Lat, f_Lwhole, f_Lword, f_Lsaid, f_Lalone, f_Lright, f_law, C_Carrier, C_Cart, C_Crawler, C_Runner, C_BadKind, C_BadCharge, C_FloorError, C_BadFloor, C_BadCell, C_BadStops, C_BadWay, C_Empty, C_NoCarrier, C_NoTask, C_Meets, C_Taken, C_Busy, C_NoReserve, C_Closed, C_Jammed, K_KINDS⟩) F_Crawler_kind T
    have G_Runner_kind : FnOk l.prog w K mg base CX0 1 f_Runner_kind _ ["self"] (spKind "runner") := ok_Runner_kind (ad := ⟨f_is_whole, f_is_among, f_Carrier_init, f_Cart_kind, f_Crawler_kind, f_Runner_kind, f_carrier_of, f_Lat, f_Lwhole, f_Lword, f_Lsaid, f_Lalone, f_Lright, f_law, C_Carrier, C_Cart, C_Crawler, C_Runner, C_BadKind, C_BadCharge, C_FloorError, C_BadFloor, C_BadCell, C_BadStops, C_BadWay, C_Empty, C_NoCarrier, C_NoTask, C_Meets, C_Taken, C_Busy, C_NoReserve, C_Closed, C_Jammed, K_KINDS⟩) F_Runner_kind T
    have G_carrier_of : FnOk l.prog w K mg base (CXE l.prog w) 3 f_carrier_of _ ["kind", "full"] (spMake (⟨f_is_whole, f_is_among, f_Carrier_init, f_Cart_kind, f_Crawler_kind, f_Runner_kind, f_carrier_of, f_Lat, f_Lwhole, f_Lword, f_Lsaid, f_Lalone, f_Lright, f_law, C_Carrier, C_Cart, C_Crawler, C_Runner, C_BadKind, C_BadCharge, C_FloorError, C_BadFloor, C_BadCell, C_BadStops, C_BadWay, C_Empty, C_NoCarrier, C_NoTask, C_Meets, C_Taken, C_Busy, C_NoReserve, C_Closed, C_Jammed, K_KINDS⟩ : Ad) K) := ok_carrier_of (ad := ⟨f_is_whole, f_is_among, f_Carrier_init, f_Cart_kind, f_Crawler_kind, f_Runner_kind, f_carrier_of, f_Lat, f_Lwhole, f_Lword, f_Lsaid, f_Lalone, f_Lright, f_law, C_Carrier, C_Cart, C_Crawler, C_Runner, C_BadKind, C_BadCharge, C_FloorError, C_BadFloor, C_BadCell, C_BadStops, C_BadWay, C_Empty, C_NoCarrier, C_NoTask, C_Meets, C_Taken, C_Busy, C_NoReserve, C_Closed, C_Jammed, K_KINDS⟩) F_carrier_of T B_is_among G_is_among B_Carrier_init G_Carrier_init
    have G_Lat : FnOk l.prog w K mg base CX0 1 f_Lat _ ["_law_script", "_law_k"] (spAt K) := ok_Lat (ad := ⟨f_is_whole, f_is_among, f_Carrier_init, f_Cart_kind, f_Crawler_kind, f_Runner_kind, f_carrier_of, f_Lat, f_Lwhole, f_Lword, f_Lsaid, f_Lalone, f_Lright, f_law, C_Carrier, C_Cart, C_Crawler, C_Runner, C_BadKind, C_BadCharge, C_FloorError, C_BadFloor, C_BadCell, C_BadStops, C_BadWay, C_Empty, C_NoCarrier, C_NoTask, C_Meets, C_Taken, C_Busy, C_NoReserve, C_Closed, C_Jammed, K_KINDS⟩) F_Lat T
    have G_Lwhole : FnOk l.prog w K mg base CX0 1 f_Lwhole _ ["_law_thing"] (spWhole K) := ok_Lwhole (ad := ⟨f_is_whole, f_is_among, f_Carrier_init, f_Cart_kind, f_Crawler_kind, f_Runner_kind, f_carrier_of, f_Lat, f_Lwhole, f_Lword, f_Lsaid, f_Lalone, f_Lright, f_law, C_Carrier, C_Cart, C_Crawler, C_Runner, C_BadKind, C_BadCharge, C_FloorError, C_BadFloor, C_BadCell, C_BadStops, C_BadWay, C_Empty, C_NoCarrier, C_NoTask, C_Meets, C_Taken, C_Busy, C_NoReserve, C_Closed, C_Jammed, K_KINDS⟩) F_Lwhole T
    have GM_Lword : ∀ {ea C : Addr} {dx : Option Addr} {ob : Obj}, MkO C dx ob → FnOkM l.prog w K mg base ea ob 1 f_Lword _ ["_law_error"] (spWord (⟨f_is_whole, f_is_among, f_Carrier_init, f_Cart_kind, f_Crawler_kind, f_Runner_kind, f_carrier_of, f_Lat, f_Lwhole, f_Lword, f_Lsaid, f_Lalone, f_Lright, f_law, C_Carrier, C_Cart, C_Crawler, C_Runner, C_BadKind, C_BadCharge, C_FloorError, C_BadFloor, C_BadCell, C_BadStops, C_BadWay, C_Empty, C_NoCarrier, C_NoTask, C_Meets, C_Taken, C_Busy, C_NoReserve, C_Closed, C_Jammed, K_KINDS⟩ : Ad) K ea C dx) := fun mk => okM_Lword (ad := ⟨f_is_whole, f_is_among, f_Carrier_init, f_Cart_kind, f_Crawler_kind, f_Runner_kind, f_carrier_of, f_Lat, f_Lwhole, f_Lword, f_Lsaid, f_Lalone, f_Lright, f_law, C_Carrier, C_Cart, C_Crawler, C_Runner, C_BadKind, C_BadCharge, C_FloorError, C_BadFloor, C_BadCell, C_BadStops, C_BadWay, C_Empty, C_NoCarrier, C_NoTask, C_Meets, C_Taken, C_Busy, C_NoReserve, C_Closed, C_Jammed, K_KINDS⟩) F_Lword T mk
    have G_Lsaid : FnOk l.prog w K mg base CX0 4 f_Lsaid _ ["_law_kind", "_law_full"] (spSaid (⟨f_is_whole, f_is_among, f_Carrier_init, f_Cart_kind, f_Crawler_kind, f_Runner_kind, f_carrier_of, f_Lat, f_Lwhole, f_Lword, f_Lsaid, f_Lalone, f_Lright, f_law, C_Carrier, C_Cart, C_Crawler, C_Runner, C_BadKind, C_BadCharge, C_FloorError, C_BadFloor, C_BadCell, C_BadStops, C_BadWay, C_Empty, C_NoCarrier, C_NoTask, C_Meets, C_Taken, C_Busy, C_NoReserve, C_Closed, C_Jammed, K_KINDS⟩ : Ad) K) := ok_Lsaid (ad := ⟨f_is_whole, f_is_among, f_Carrier_init, f_Cart_kind, f_Crawler_kind, f_Runner_kind, f_carrier_of, f_Lat, f_Lwhole, f_Lword, f_Lsaid, f_Lalone, f_Lright, f_law, C_Carrier, C_Cart, C_Crawler, C_Runner, C_BadKind, C_BadCharge, C_FloorError, C_BadFloor, C_BadCell, C_BadStops, C_BadWay, C_Empty, C_NoCarrier, C_NoTask, C_Meets, C_Taken, C_Busy, C_NoReserve, C_Closed, C_Jammed, K_KINDS⟩) F_Lsaid T B_carrier_of BD_carrier_of G_carrier_of B_Lword GM_Lword
    have G_Lalone : FnOk l.prog w K mg base CX0 4 f_Lalone _ ["_law_kind"] (spAlone (⟨f_is_whole, f_is_among, f_Carrier_init, f_Cart_kind, f_Crawler_kind, f_Runner_kind, f_carrier_of, f_Lat, f_Lwhole, f_Lword, f_Lsaid, f_Lalone, f_Lright, f_law, C_Carrier, C_Cart, C_Crawler, C_Runner, C_BadKind, C_BadCharge, C_FloorError, C_BadFloor, C_BadCell, C_BadStops, C_BadWay, C_Empty, C_NoCarrier, C_NoTask, C_Meets, C_Taken, C_Busy, C_NoReserve, C_Closed, C_Jammed, K_KINDS⟩ : Ad) K) := ok_Lalone (ad := ⟨f_is_whole, f_is_among, f_Carrier_init, f_Cart_kind, f_Crawler_kind, f_Runner_kind, f_carrier_of, f_Lat, f_Lwhole, f_Lword, f_Lsaid, f_Lalone, f_Lright, f_law, C_Carrier, C_Cart, C_Crawler, C_Runner, C_BadKind, C_BadCharge, C_FloorError, C_BadFloor, C_BadCell, C_BadStops, C_BadWay, C_Empty, C_NoCarrier, C_NoTask, C_Meets, C_Taken, C_Busy, C_NoReserve, C_Closed, C_Jammed, K_KINDS⟩) F_Lalone T B_carrier_of BD_carrier_of G_carrier_of B_Lword GM_Lword
    have G_Lright : FnOk l.prog w K mg base CX0 2 f_Lright _ ["_law_one", "_law_kind", "_law_full"] (spRight (⟨f_is_whole, f_is_among, f_Carrier_init, f_Cart_kind, f_Crawler_kind, f_Runner_kind, f_carrier_of, f_Lat, f_Lwhole, f_Lword, f_Lsaid, f_Lalone, f_Lright, f_law, C_Carrier, C_Cart, C_Crawler, C_Runner, C_BadKind, C_BadCharge, C_FloorError, C_BadFloor, C_BadCell, C_BadStops, C_BadWay, C_Empty, C_NoCarrier, C_NoTask, C_Meets, C_Taken, C_Busy, C_NoReserve, C_Closed, C_Jammed, K_KINDS⟩ : Ad)) := ok_Lright (ad := ⟨f_is_whole, f_is_among, f_Carrier_init, f_Cart_kind, f_Crawler_kind, f_Runner_kind, f_carrier_of, f_Lat, f_Lwhole, f_Lword, f_Lsaid, f_Lalone, f_Lright, f_law, C_Carrier, C_Cart, C_Crawler, C_Runner, C_BadKind, C_BadCharge, C_FloorError, C_BadFloor, C_BadCell, C_BadStops, C_BadWay, C_Empty, C_NoCarrier, C_NoTask, C_Meets, C_Taken, C_Busy, C_NoReserve, C_Closed, C_Jammed, K_KINDS⟩) F_Lright T B_Lwhole G_Lwhole B_Cart_kind G_Cart_kind B_Crawler_kind G_Crawler_kind B_Runner_kind G_Runner_kind
    exact ok_law F_law T B_Lat G_Lat B_Lsaid G_Lsaid B_Lalone G_Lalone B_carrier_of BD_carrier_of G_carrier_of B_Lright G_Lright
  case bd => exact fun s v => .of_eq rfl
theorem walk {l : PySem.W.OpenLaw} {q : Program} {loose : List Str} {XP : (Str → Option Value) → Heap → Prop} {YP : World → Heap → Prop} {d : DefRec} {K : Params → PySem.W.Frag} (hn : l.most = some 63) (hdf : d.params.defaults = [])
    (hY : ∀ (w : World) (h : Heap), YP w h → (K w.params).In h)
    (F : ∀ (w : World) (mg : Str → Option Value) (fa : Addr) (h : Heap), (K w.params).In h → h.Ns mainGlobals mg → mg d.name = some (.ref fa) →
      ∃ fd : FuncData, (∀ (s : Shared) (u : Value), BindsTo s fd ⟨[u], []⟩ [("_law_script", u)]) ∧ ∀ base : Heap, (K w.params).In base → base.Ns mainGlobals mg → FnOk l.prog w (K w.params) mg base CX0 5 fa fd ["_law_script"] (spLaw (K w.params))) :
    PySem.W.WalkO q loose XP YP l.row.toRowW d [] (fun f vs => PySem.call f vs) :=
  L2.walk_of (n := 63) (k := 5) (x := "_law_script") (CX := fun _ => CX0) (sp := fun w => spLaw (K w.params)) hn (by decide) hdf ⟨rfl, by decide, by decide⟩ hY F (fun _ _ a ns hl _ hS => ⟨a, ns, rfl, hS, hl, fun _ => rfl⟩) fun _ _ _ _ _ z => z
end Pf
open PySem PySem.W PyProof.Rows
set_option maxRecDepth 100000 in
set_option maxHeartbeats 0 in
theorem PySem.Challenge.cw_floorways_k07_made_holds : PySem.Challenge.rw_floorways_k07_made.Holds := by
  w_on; o_law; k_head; (case hw => w_witness2)
  k_fill
  refine Pf.walk (l := PySem.Challenge.rw_floorways_k07_made) rfl rfl (fun w h Y => PySem.W.kIn_of Y) ?F
  case F =>
    intro w mg fa h KX G hmg
    refine' Pf.all_mk KX G hmg ?aC_Carrier ?pg_Carrier ?hd_Carrier ?po_Carrier ?sa_Carrier ?kc_Carrier ?mk_Carrier ?n_Carrier_full ?aC_Cart ?pg_Cart ?hd_Cart ?po_Cart ?sa_Cart ?kc_Cart ?mk_Cart ?n_Cart_full ?aC_Crawler ?pg_Crawler ?hd_Crawler ?po_Crawler ?sa_Crawler ?kc_Crawler ?mk_Crawler ?n_Crawler_full ?aC_Runner ?pg_Runner ?hd_Runner ?po_Runner ?sa_Runner ?kc_Runner ?mk_Runner ?n_Runner_full ?aC_BadKind ?er_BadKind ?aC_BadCharge ?er_BadCharge ?aC_FloorError ?aC_BadFloor ?aC_BadCell ?aC_BadStops ?aC_BadWay ?aC_Empty ?aC_NoCarrier ?aC_NoTask ?aC_Meets ?aC_Taken ?aC_Busy ?aC_NoReserve ?aC_Closed ?aC_Jammed ?xm_BadKind_FloorError ?xm_BadCharge_FloorError ?x_KINDS ?lk_KINDS ?is_BadKind_BadFloor ?is_BadKind_BadKind ?is_BadKind_BadCell ?is_BadKind_BadCharge ?is_BadKind_BadStops ?is_BadKind_BadWay ?is_BadKind_Empty ?is_BadKind_NoCarrier ?is_BadKind_NoTask ?is_BadKind_Meets ?is_BadKind_Taken ?is_BadKind_Busy ?is_BadKind_NoReserve ?is_BadKind_Closed ?is_BadKind_Jammed ?is_BadKind_FloorError ?is_BadKind_ValueError ?ga_BadKind ?gn_BadKind ?bx_BadKind ?cl_BadKind ?ca_BadKind ?cm_BadKind ?is_BadCharge_BadFloor ?is_BadCharge_BadKind ?is_BadCharge_BadCell ?is_BadCharge_BadCharge ?is_BadCharge_BadStops ?is_BadCharge_BadWay ?is_BadCharge_Empty ?is_BadCharge_NoCarrier ?is_BadCharge_NoTask ?is_BadCharge_Meets ?is_BadCharge_Taken ?is_BadCharge_Busy ?is_BadCharge_NoReserve ?is_BadCharge_Closed ?is_BadCharge_Jammed ?is_BadCharge_FloorError ?is_BadCharge_ValueError ?ga_BadCharge ?gn_BadCharge ?bx_BadCharge ?cl_BadCharge ?ca_BadCharge ?cm_BadCharge ?cgx ?ctx ?ca_Cart ?cm_Cart ?is_Cart_Carrier ?is_Cart_Cart ?is_Cart_Crawler ?is_Cart_Runner ?ca_Crawler ?cm_Crawler ?is_Crawler_Carrier ?is_Crawler_Cart ?is_Crawler_Crawler ?is_Crawler_Runner ?ca_Runner ?cm_Runner ?is_Runner_Carrier ?is_Runner_Cart ?is_Runner_Crawler ?is_Runner_Runner ?a_is_whole ?l_is_whole ?c_is_whole ?k_is_whole ?a_is_among ?l_is_among ?c_is_among ?k_is_among ?a_Carrier_init ?i_Carrier_init ?l_Carrier_init ?c_Carrier_init ?k_Carrier_init ?a_Cart_kind ?i_Cart_kind ?l_Cart_kind ?c_Cart_kind ?k_Cart_kind ?a_Crawler_kind ?i_Crawler_kind ?l_Crawler_kind ?c_Crawler_kind ?k_Crawler_kind ?a_Runner_kind ?i_Runner_kind ?l_Runner_kind ?c_Runner_kind ?k_Runner_kind ?a_carrier_of ?l_carrier_of ?c_carrier_of ?k_carrier_of ?df_carrier_of ?a_Lat ?l_Lat ?c_Lat ?k_Lat ?a_Lwhole ?l_Lwhole ?c_Lwhole ?k_Lwhole ?a_Lword ?l_Lword ?c_Lword ?k_Lword ?a_Lsaid ?l_Lsaid ?c_Lsaid ?k_Lsaid ?a_Lalone ?l_Lalone ?c_Lalone ?k_Lalone ?a_Lright ?l_Lright ?c_Lright ?k_Lright ?a_law ?l_law ?c_law ?k_law ?as_Cart_init ?as_Crawler_init ?as_Runner_init ?z_len ?z_range ?z_isinstance ?z_int ?z_bool ?z_str ?z_ValueError ?x_MOST_FULL
    (case aC_Carrier => k_is)
    (case pg_Carrier => k_is)
    (case hd_Carrier => k_is)
    (case po_Carrier => k_is)
    (case sa_Carrier => k_is)
    (case kc_Carrier => k_is)
    (case mk_Carrier => k_is)
    (case n_Carrier_full => k_is)
    (case aC_Cart => k_is)
    (case pg_Cart => k_is)
    (case hd_Cart => k_is)
    (case po_Cart => k_is)
    (case sa_Cart => k_is)
    (case kc_Cart => k_is)
    (case mk_Cart => k_is)
    (case n_Cart_full => k_is)
    (case aC_Crawler => k_is)
    (case pg_Crawler => k_is)
    (case hd_Crawler => k_is)
    (case po_Crawler => k_is)
    (case sa_Crawler => k_is)
    (case kc_Crawler => k_is)
    (case mk_Crawler => k_is)
    (case n_Crawler_full => k_is)
    (case aC_Runner => k_is)
    (case pg_Runner => k_is)
    (case hd_Runner => k_is)
    (case po_Runner => k_is)
    (case sa_Runner => k_is)
    (case kc_Runner => k_is)
    (case mk_Runner => k_is)
    (case n_Runner_full => k_is)
    (case aC_BadKind => k_is)
    (case er_BadKind => first | k_is | kit_is | kernel_rfl)
    (case aC_BadCharge => k_is)
    (case er_BadCharge => first | k_is | kit_is | kernel_rfl)
    (case aC_FloorError => k_is)
    (case aC_BadFloor => k_is)
    (case aC_BadCell => k_is)
    (case aC_BadStops => k_is)
    (case aC_BadWay => k_is)
    (case aC_Empty => k_is)
    (case aC_NoCarrier => k_is)
    (case aC_NoTask => k_is)
    (case aC_Meets => k_is)
    (case aC_Taken => k_is)
    (case aC_Busy => k_is)
    (case aC_NoReserve => k_is)
    (case aC_Closed => k_is)
    (case aC_Jammed => k_is)
    (case xm_BadKind_FloorError => first | k_is | kit_is | kernel_rfl)
    (case xm_BadCharge_FloorError => first | k_is | kit_is | kernel_rfl)
    (case x_KINDS => k_is)
    (case lk_KINDS => k_is)
    (case is_BadKind_BadFloor => first | k_is | kit_is | kernel_rfl)
    (case is_BadKind_BadKind => first | k_is | kit_is | kernel_rfl)
    (case is_BadKind_BadCell => first | k_is | kit_is | kernel_rfl)
    (case is_BadKind_BadCharge => first | k_is | kit_is | kernel_rfl)
    (case is_BadKind_BadStops => first | k_is | kit_is | kernel_rfl)
    (case is_BadKind_BadWay => first | k_is | kit_is | kernel_rfl)
    (case is_BadKind_Empty => first | k_is | kit_is | kernel_rfl)
    (case is_BadKind_NoCarrier => first | k_is | kit_is | kernel_rfl)
    (case is_BadKind_NoTask => first | k_is | kit_is | kernel_rfl)
    (case is_BadKind_Meets => first | k_is | kit_is | kernel_rfl)
    (case is_BadKind_Taken => first | k_is | kit_is | kernel_rfl)
    (case is_BadKind_Busy => first | k_is | kit_is | kernel_rfl)
    (case is_BadKind_NoReserve => first | k_is | kit_is | kernel_rfl)
    (case is_BadKind_Closed => first | k_is | kit_is | kernel_rfl)
    (case is_BadKind_Jammed => first | k_is | kit_is | kernel_rfl)
    (case is_BadKind_FloorError => first | k_is | kit_is | kernel_rfl)
    (case is_BadKind_ValueError => first | k_is | kit_is | kernel_rfl)
    (case ga_BadKind => k_is)
    (case gn_BadKind => k_is)
    (case bx_BadKind => k_is)
    (case cl_BadKind => first | k_is | kit_is | kernel_rfl)
    (case ca_BadKind => k_is)
    (case cm_BadKind => k_is)
    (case is_BadCharge_BadFloor => first | k_is | kit_is | kernel_rfl)
    (case is_BadCharge_BadKind => first | k_is | kit_is | kernel_rfl)
    (case is_BadCharge_BadCell => first | k_is | kit_is | kernel_rfl)
    (case is_BadCharge_BadCharge => first | k_is | kit_is | kernel_rfl)
    (case is_BadCharge_BadStops => first | k_is | kit_is | kernel_rfl)
    (case is_BadCharge_BadWay => first | k_is | kit_is | kernel_rfl)
    (case is_BadCharge_Empty => first | k_is | kit_is | kernel_rfl)
    (case is_BadCharge_NoCarrier => first | k_is | kit_is | kernel_rfl)
    (case is_BadCharge_NoTask => first | k_is | kit_is | kernel_rfl)
    (case is_BadCharge_Meets => first | k_is | kit_is | kernel_rfl)
    (case is_BadCharge_Taken => first | k_is | kit_is | kernel_rfl)
    (case is_BadCharge_Busy => first | k_is | kit_is | kernel_rfl)
    (case is_BadCharge_NoReserve => first | k_is | kit_is | kernel_rfl)
    (case is_BadCharge_Closed => first | k_is | kit_is | kernel_rfl)
    (case is_BadCharge_Jammed => first | k_is | kit_is | kernel_rfl)
    (case is_BadCharge_FloorError => first | k_is | kit_is | kernel_rfl)
    (case is_BadCharge_ValueError => first | k_is | kit_is | kernel_rfl)
    (case ga_BadCharge => k_is)
    (case gn_BadCharge => k_is)
    (case bx_BadCharge => k_is)
    (case cl_BadCharge => first | k_is | kit_is | kernel_rfl)
    (case ca_BadCharge => k_is)
    (case cm_BadCharge => k_is)
    (case cgx => k_is)
    (case ctx => k_is)
    (case ca_Cart => k_is)
    (case cm_Cart => k_is)
    (case is_Cart_Carrier => first | k_is | kit_is | kernel_rfl)
    (case is_Cart_Cart => first | k_is | kit_is | kernel_rfl)
    (case is_Cart_Crawler => first | k_is | kit_is | kernel_rfl)
    (case is_Cart_Runner => first | k_is | kit_is | kernel_rfl)
    (case ca_Crawler => k_is)
    (case cm_Crawler => k_is)
    (case is_Crawler_Carrier => first | k_is | kit_is | kernel_rfl)
    (case is_Crawler_Cart => first | k_is | kit_is | kernel_rfl)
    (case is_Crawler_Crawler => first | k_is | kit_is | kernel_rfl)
    (case is_Crawler_Runner => first | k_is | kit_is | kernel_rfl)
    (case ca_Runner => k_is)
    (case cm_Runner => k_is)
    (case is_Runner_Carrier => first | k_is | kit_is | kernel_rfl)
    (case is_Runner_Cart => first | k_is | kit_is | kernel_rfl)
    (case is_Runner_Crawler => first | k_is | kit_is | kernel_rfl)
    (case is_Runner_Runner => first | k_is | kit_is | kernel_rfl)
    (case a_is_whole => k_is)
    (case l_is_whole => k_is)
    (case c_is_whole => k_is)
    (case k_is_whole => k_is)
    (case a_is_among => k_is)
    (case l_is_among => k_is)
    (case c_is_among => k_is)
    (case k_is_among => k_is)
    (case a_Carrier_init => k_is)
    (case i_Carrier_init => k_is)
    (case l_Carrier_init => k_is)
    (case c_Carrier_init => k_is)
    (case k_Carrier_init => k_is)
    (case a_Cart_kind => k_is)
    (case i_Cart_kind => k_is)
    (case l_Cart_kind => k_is)
    (case c_Cart_kind => k_is)
    (case k_Cart_kind => k_is)
    (case a_Crawler_kind => k_is)
    (case i_Crawler_kind => k_is)
    (case l_Crawler_kind => k_is)
    (case c_Crawler_kind => k_is)
    (case k_Crawler_kind => k_is)
    (case a_Runner_kind => k_is)
    (case i_Runner_kind => k_is)
    (case l_Runner_kind => k_is)
    (case c_Runner_kind => k_is)
    (case k_Runner_kind => k_is)
    (case a_carrier_of => k_is)
    (case l_carrier_of => k_is)
    (case c_carrier_of => k_is)
    (case k_carrier_of => k_is)
    (case df_carrier_of => k_is)
    (case a_Lat => k_is)
    (case l_Lat => k_is)
    (case c_Lat => k_is)
    (case k_Lat => k_is)
    (case a_Lwhole => k_is)
    (case l_Lwhole => k_is)
    (case c_Lwhole => k_is)
    (case k_Lwhole => k_is)
    (case a_Lword => k_is)
    (case l_Lword => k_is)
    (case c_Lword => k_is)
    (case k_Lword => k_is)
    (case a_Lsaid => k_is)
    (case l_Lsaid => k_is)
    (case c_Lsaid => k_is)
    (case k_Lsaid => k_is)
    (case a_Lalone => k_is)
    (case l_Lalone => k_is)
    (case c_Lalone => k_is)
    (case k_Lalone => k_is)
    (case a_Lright => k_is)
    (case l_Lright => k_is)
    (case c_Lright => k_is)
    (case k_Lright => k_is)
    (case a_law => k_is)
    (case l_law => k_is)
    (case c_law => k_is)
    (case k_law => k_is)
    (case as_Cart_init => k_is)
    (case as_Crawler_init => k_is)
    (case as_Runner_init => k_is)
    (case z_len => k_is)
    (case z_range => k_is)
    (case z_isinstance => k_is)
    (case z_int => k_is)
    (case z_bool => k_is)
    (case z_str => k_is)
    (case z_ValueError => k_is)
    (case x_MOST_FULL => k_is)
