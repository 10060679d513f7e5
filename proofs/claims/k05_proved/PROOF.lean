import PyProof.Rows.All
import PyProof.StrLoop
import PyProof.TupleIter
import PyProof.RangeIter
import Wide.All
import OpenK.AllK
import Wide.FinOn
import Lean
import PyProof.EqAt
import PyProof.EqKinds
import PyProof.TupleCall
import KE.KRevIter
import PyProof.CollectIter
import PyProof.ListRange
import PyProof.StationsW
import KE.KTryMore
import PyProof.RulesAs
import PyProof.Rows.TupDisplay
import KE.KEqDict
import PyProof.SeqI3
import KE.KDictOf
import PyProof.AttrMissHeap
import PyProof.AttrMissSeq
import PyProof.CollectWalk
import PyProof.ListStr
import PySem.Challenge.RW_floorways_k05_floors_refused
def PySem.W.Fast.tw16330299476545703390 : Unit := ()
def PySem.W.Fast.tw10509607775636746656 : Unit := ()
def PySem.W.Fast.tw9986327429935899605 : Unit := ()
def PySem.W.Fast.tw12669727578911756302 : Unit := ()
def PySem.W.Fast.tw18057358237479156557 : Unit := ()
def PySem.W.Fast.tw4365368840352441828 : Unit := ()
def PySem.W.Fast.tw2386135290318825769 : Unit := ()
def PySem.W.Fast.tw736296161273180389 : Unit := ()
def PySem.W.Fast.tw16340915612050117170 : Unit := ()
def PySem.W.Fast.tw1776454094518719224 : Unit := ()
def PySem.W.Fast.tw2140122851311839888 : Unit := ()
def PySem.W.Fast.tw13716419469064524540 : Unit := ()
def PySem.W.Fast.tw1802862690285183188 : Unit := ()
def PySem.W.Fast.tw9615281058088708826 : Unit := ()
def PySem.W.Fast.tw9542019411485902760 : Unit := ()
def PySem.W.Fast.tw10016159642064681347 : Unit := ()
def PySem.W.Fast.tw11548357022727636354 : Unit := ()
def PySem.W.Fast.tw11677384550771338749 : Unit := ()
def PySem.W.Fast.tw4140040283153717728 : Unit := ()
def PySem.W.Fast.tw8330458405087783363 : Unit := ()
def PySem.W.Fast.tw3349261713538456660 : Unit := ()
def PySem.W.Fast.tw15205282711433576844 : Unit := ()
def PySem.W.Fast.tw17137065117285374924 : Unit := ()
def PySem.W.Fast.tw6974043477645068009 : Unit := ()
def PySem.W.Fast.tw2405106462574165952 : Unit := ()
def PySem.W.Fast.tw8505381887023038738 : Unit := ()
def PySem.W.Fast.tw1850314540951941227 : Unit := ()
def PySem.W.Fast.tw9603385152867618971 : Unit := ()
def PySem.W.Fast.tw10260245416289419164 : Unit := ()
def PySem.W.Fast.tw1453259079681469288 : Unit := ()
def PySem.W.Fast.tw8408210082017771813 : Unit := ()
def PySem.W.Fast.tw5497980278320846698 : Unit := ()
def PySem.W.Fast.tw11061807200704461970 : Unit := ()
def PySem.W.Fast.tw6478666473631266123 : Unit := ()
def PySem.W.Fast.tw15800799971000964324 : Unit := ()
def PySem.W.Fast.tw3625368513698309435 : Unit := ()
def PySem.W.Fast.tw2997628504062749472 : Unit := ()
def PySem.W.Fast.tw6018103019636683753 : Unit := ()
def PySem.W.Fast.tw12234087625024253830 : Unit := ()
def PySem.W.Fast.tw17614347650151187720 : Unit := ()
def PySem.W.Fast.tw4502502685497257419 : Unit := ()
def PySem.W.Fast.tw5114857216481763475 : Unit := ()
def PySem.W.Fast.tw163911215509195479 : Unit := ()
def PySem.W.Fast.tw2813184601337006208 : Unit := ()
def PySem.W.Fast.tw2066781862552345712 : Unit := ()
def PySem.W.Fast.tw1621587403120414849 : Unit := ()
def PySem.W.Fast.tw10594079426894204900 : Unit := ()
def PySem.W.Fast.tw3423434244977618784 : Unit := ()
def PySem.W.Fast.tw8439585312244427221 : Unit := ()
def PySem.W.Fast.tw1614262795464410651 : Unit := ()
def PySem.W.Fast.tw8176716167787167021 : Unit := ()
def PySem.W.Fast.tw13802859407463523897 : Unit := ()
def PySem.W.Fast.tw14947186193350632043 : Unit := ()
def PySem.W.Fast.tw12675271510439168698 : Unit := ()
def PySem.W.Fast.tw11302941972430518543 : Unit := ()
def PySem.W.Fast.tw17423699670452603477 : Unit := ()
def PySem.W.Fast.tw18442798277608725209 : Unit := ()
def PySem.W.Fast.tw181979752734395657 : Unit := ()
def PySem.W.Fast.tw6862915181494857056 : Unit := ()
def PySem.W.Fast.tw7495215041621633154 : Unit := ()
def PySem.W.Fast.tw11470679213319095977 : Unit := ()
def PySem.W.Fast.tw10197110850137832087 : Unit := ()
def PySem.W.Fast.tw5197715076859919017 : Unit := ()
def PySem.W.Fast.tw11953337838399467113 : Unit := ()
def PySem.W.Fast.tw18065830671657122097 : Unit := ()
def PySem.W.Fast.tw12431978848950072604 : Unit := ()
def PySem.W.Fast.tw18169500581015101908 : Unit := ()
def PySem.W.Fast.tw16392415399043748454 : Unit := ()
def PySem.W.Fast.tw10767629540659566607 : Unit := ()
def PySem.W.Fast.tw15705035258687487101 : Unit := ()
def PySem.W.Fast.tw3955697877416422173 : Unit := ()
def PySem.W.Fast.tw13908174105960329142 : Unit := ()
def PySem.W.Fast.tw15886930131653737808 : Unit := ()
def PySem.W.Fast.tw579265816957180409 : Unit := ()
def PySem.W.Fast.tw14944524815184671706 : Unit := ()
def PySem.W.Fast.tw9604322781853888902 : Unit := ()
def PySem.W.Fast.tw8513884513878819912 : Unit := ()
def PySem.W.Fast.tw5649143702086393548 : Unit := ()
def PySem.W.Fast.tw12316744363240542090 : Unit := ()
def PySem.W.Fast.tw1905773472255067428 : Unit := ()
def PySem.W.Fast.tw8357299106599321540 : Unit := ()
def PySem.W.Fast.tw5699403268011231449 : Unit := ()
def PySem.W.Fast.tw9278419478673537173 : Unit := ()
def PySem.W.Fast.tw10707259786329621901 : Unit := ()
def PySem.W.Fast.tw3402260565598895792 : Unit := ()
def PySem.W.Fast.tw3648034595326498689 : Unit := ()
def PySem.W.Fast.tw55157963466643543 : Unit := ()
def PySem.W.Fast.tw14803891587392001188 : Unit := ()
def PySem.W.Fast.tw13905534165569693976 : Unit := ()
def PySem.W.Fast.tw15898051094796931657 : Unit := ()
def PySem.W.Fast.tw9056422439294899247 : Unit := ()
def PySem.W.Fast.tw6940424829030976361 : Unit := ()
def PySem.W.Fast.tw9412139413129209615 : Unit := ()
def PySem.W.Fast.tw18051876325693420105 : Unit := ()
def PySem.W.Fast.tw10345710142057639504 : Unit := ()
def PySem.W.Fast.tw14802306625868575562 : Unit := ()
def PySem.W.Fast.tw10755801627386361139 : Unit := ()
def PySem.W.Fast.tw2704671140331603041 : Unit := ()
def PySem.W.Fast.tw13542814326951733727 : Unit := ()
def PySem.W.Fast.tw13664407077275705961 : Unit := ()
def PySem.W.Fast.tw17825384281902079126 : Unit := ()
set_option Elab.async false
set_option linter.all false
set_option maxRecDepth 100000
namespace L2
open PySem PyProof.Rows PySem.Calls
def Hd (A : Around) (h : Heap) : Prop :=
  A.handled = none ∨ ∃ (ea C : Addr) (dx : Option Addr) (vs : Array Value) (sl : Array (Option Value)), A.handled = some (.ref ea) ∧ h.get? ea = some ⟨.ref C, dx, .fields vs, sl⟩ ∧ vs[2]? = some Value.none
theorem Hd.keeps {A : Around} {h h' : Heap} (d : Hd A h) (k : ∀ b o, h.get? b = some o → h'.get? b = some o) : Hd A h' := by
  rcases d with d | ⟨ea, C, dx, vs, sl, d1, d2, d3⟩
  · exact .inl d
  · exact .inr ⟨ea, C, dx, vs, sl, d1, k _ _ d2, d3⟩
theorem Hd.update {A : Around} {h : Heap} (d : Hd A h) {it : Addr} {o : Obj} {n : String} (ho : h.get? it = some o) (hc : o.cls = .type n) (f : Obj → Obj) : Hd A (h.update it f) := by
  rcases d with d | ⟨ea, C, dx, vs, sl, d1, d2, d3⟩
  · exact .inl d
  · refine .inr ⟨ea, C, dx, vs, sl, d1, ?_, d3⟩
    rw [Heap.get?_update_other h f (fun z => ?_)]
    · exact d2
    · subst z
      rw [ho] at d2
      cases d2
      cases hc
section
variable {prog : Program} {w : World} {A : Around} {E : Value → Shared → Prop} {s : Shared}
theorem entry_unchain : entryFor table "proto.unchain" = some Builtin.«proto.unchain» := entryFor_of_tree (by kernel_rfl)
theorem raise_new {α : Type} {Q : α → Shared → Prop} {e : Addr} {c : Value} {d : Option Addr} {ws : Array Value} {sl : Array (Option Value)} (hd : Hd A s.heap) (hn : ∀ ea, A.handled = some (.ref ea) → ea ≠ e) (he : s.heap.get? e = some ⟨c, d, .fields ws, sl⟩) (hz : 2 < ws.size)
    (k : ∀ h', (∀ b o, b ≠ e → s.heap.get? b = some o → h'.get? b = some o) → (∃ o, h'.get? e = some o ∧ o.cls = c) → E (.ref e) { s with heap := h' }) : wpAny (model prog w) A (raiseNew (.ref e) : Sem α) Q E s := by
  rcases hd with hd | ⟨ea, C, dx, vs, sl2, d1, d2, d3⟩
  · unfold raiseNew
    refine wpAny_bind (wpAny_handled ?_)
    rw [hd]
    exact wpAny_bind (wpAny_pure (wpAny_throw (k _ (fun _ _ _ z => z) ⟨_, he, rfl⟩)))
  · have ne := hn ea d1
    unfold raiseNew
    refine wpAny_bind (wpAny_handled ?_)
    rw [d1]
    have hb : (Value.ref ea != Value.ref e) = true := by simp [ne]
    dsimp only
    rw [if_pos hb]
    refine wpAny_bind (wpAny_holding (wpAny_runValue (codeAny_builtin entry_unchain ?_)))
    show wpAny _ _ (field (.ref ea) 2 >>= _) _ _ s
    refine wpAny_bind (wpAny_field d2 rfl d3 ?_)
    rw [if_pos (by decide)]
    refine wpAny_bind (wpAny_pure (wpAny_pure ?_))
    unfold updateField
    refine wpAny_bind (wpAny_bind (wpAny_load he ?_))
    show wpAny _ _ (if 2 < ws.size then _ else _) _ _ s
    rw [if_pos hz]
    refine wpAny_update he (wpAny_throw (k _ (fun b o hb z => ?_) ⟨_, Heap.get?_update_self _ he rfl, rfl⟩))
    rw [Heap.get?_update_other _ _ (Ne.symm hb)]
    exact z
theorem stop_told {α : Type} {Q : α → Shared → Prop} (hd : Hd A s.heap) (k : ∀ h' e, (∀ b o, s.heap.get? b = some o → h'.get? b = some o) → (∃ o, h'.get? e = some o ∧ o.cls = .type "StopIteration") → E (.ref e) { s with heap := h' }) :
    wpAny (model prog w) A (newExc (.type "StopIteration") [] >>= fun e => (raiseNew e : Sem α)) Q E s := by
  refine wpAny_bind ?_
  simp only [newExc, newTuple]
  refine wpAny_bind (wpAny_newObj_type ?_ (by size_fits))
  refine wpAny_bind (m := firstArgMember _ _) (wpAny_of_eq (a := Value.none) (by first | rfl | (simp only [firstArgMember]; rfl)) ?_)
  refine wpAny_newObj_type ?_ (by size_fits)
  have up : ∀ b o, s.heap.get? b = some o → ((s.heap.push { cls := .type "tuple", data := .seq #[] }).push { cls := .type "StopIteration", data := .fields (#[Value.ref s.heap.objs.size, .none, .none, .none, .bool false, .none] ++ ownMembersOf (.type "StopIteration") []) }).get? b = some o :=
    fun b o z => Heap.get?_push_of_some _ (Heap.get?_push_of_some _ z)
  have lt : ∀ b o, s.heap.get? b = some o → b ≠ (s.heap.push { cls := .type "tuple", data := .seq #[] }).objs.size := fun b o z => Nat.ne_of_lt (Heap.lt_size (Heap.get?_push_of_some _ z))
  refine raise_new (hd.keeps up) (fun ea z => ?_) (Heap.get?_push_size _ rfl) (by rw [Array.size_append]; exact Nat.lt_of_lt_of_le (show 2 < 6 by decide) (Nat.le_add_right 6 _)) fun h' k1 k2 => k h' _ (fun b o z => k1 b o (lt b o z) (up b o z)) k2
  rcases hd with hd | ⟨eb, C, dx, vs, sl, d1, d2, d3⟩
  · rw [hd] at z
    cases z
  · rw [d1] at z
    cases z
    exact lt _ _ d2
theorem stop_seen {Q : Option Value → Shared → Prop} {e : Addr} (he : ∃ o, s.heap.get? e = some o ∧ o.cls = .type "StopIteration") (h : Q none s) :
    wpAny (model prog w) A (do if ← isInstance (.ref e) (.type "StopIteration") then pure none else throw (.ref e)) Q E s :=
  wpAny_bind (wpAny_isInstance (T := "StopIteration") (b := true) he isSubtype_stop (wpAny_pure h))
theorem list_end {it l : Addr} {i : Nat} {items : Array Value} {Q : Option Value → Shared → Prop} (hh : Hd A s.heap) (hit : s.heap.IsListIter it l i) (hl : s.heap.IsList l items) (hx : items[i]? = none)
    (hQ : ∀ h', Heap.ExtBut it s.heap h' → Q none { s with heap := h' }) : wpAny (model prog w) A (pyNext (.ref it)) Q E s := by
  obtain ⟨o, ho, hc, hd⟩ := id hit
  obtain ⟨_, hol, _, _, hdl⟩ := hl
  unfold pyNext
  refine wpAny_bind (wpAny_attempt (wpAny_callSpecial?_slot (name := Str.ofString "__next__") hit.typeIs slot_listiter_next (wpAny_call_entry slot_listiter_next hit.typeIs entry_listiter_next ?_ (args_listiter_next _))))
  show wpAny _ _ (field (.ref it) 0 >>= _) _ _ s
  refine wpAny_bind (wpAny_field ho hd (x := .ref l) rfl ?_)
  rw [if_neg (fun z : (Value.ref l == Value.none) = true => nomatch z)]
  show wpAny _ _ (field (.ref it) 1 >>= _) _ _ s
  refine wpAny_bind (wpAny_field ho hd (x := .int i 0) rfl ?_)
  show wpAny _ _ (seqItems? (.ref l) >>= _) _ _ s
  refine wpAny_bind (wpAny_seqItems hol hdl ?_)
  simp only [Int.toNat_natCast, hx]
  refine wpAny_bind (wpAny_rule (wpAny_bind (wpAny_setField ho hd (by simp) ?_)))
  refine stop_told (hh.update (A := A) ho hc _) fun h' e k1 k2 => stop_seen k2 (hQ h' fun b o hb z => k1 b o ?_)
  rw [Heap.get?_update_other _ _ (Ne.symm hb)]
  exact z
theorem tuple_end {it t : Addr} {i : Nat} {items : Array Value} {Q : Option Value → Shared → Prop} (hh : Hd A s.heap) (hit : s.heap.IsTupleIter it t i) (ht : s.heap.IsTuple t items) (hx : items[i]? = none)
    (hQ : ∀ h', Heap.ExtBut it s.heap h' → Q none { s with heap := h' }) : wpAny (model prog w) A (pyNext (.ref it)) Q E s := by
  obtain ⟨o, ho, hc, hd⟩ := id hit
  obtain ⟨_, hol, _, _, hdl⟩ := ht
  unfold pyNext
  refine wpAny_bind (wpAny_attempt (wpAny_callSpecial?_slot (name := Str.ofString "__next__") hit.typeIs F.slot_tuple_iterator_next (wpAny_call_entry F.slot_tuple_iterator_next hit.typeIs F.entry_tuple_iterator_next ?_ (F.args_tuple_iterator_next_1 _))))
  show wpAny _ _ (field (.ref it) 0 >>= _) _ _ s
  refine wpAny_bind (wpAny_field ho hd (x := .ref t) rfl ?_)
  rw [if_neg (fun z : (Value.ref t == Value.none) = true => nomatch z)]
  show wpAny _ _ (field (.ref it) 1 >>= _) _ _ s
  refine wpAny_bind (wpAny_field ho hd (x := .int i 0) rfl ?_)
  show wpAny _ _ (seqItems? (.ref t) >>= _) _ _ s
  refine wpAny_bind (wpAny_seqItems hol hdl ?_)
  simp only [Int.toNat_natCast, hx]
  refine wpAny_bind (wpAny_rule (wpAny_bind (wpAny_setField ho hd (by simp) ?_)))
  refine stop_told (hh.update (A := A) ho hc _) fun h' e k1 k2 => stop_seen k2 (hQ h' fun b o hb z => k1 b o ?_)
  rw [Heap.get?_update_other _ _ (Ne.symm hb)]
  exact z
theorem range_end {it : Addr} {x left step : Int} {Q : Option Value → Shared → Prop} (hh : Hd A s.heap) (hit : IsRangeIter s.heap it x left step) (hleft : left ≤ 0)
    (hQ : ∀ h', Heap.ExtBut it s.heap h' → Q none { s with heap := h' }) : wpAny (model prog w) A (pyNext (.ref it)) Q E s := by
  have hT : s.TypeIs (.ref it) "range_iterator" := ⟨_, hit, rfl⟩
  unfold pyNext
  refine wpAny_bind (wpAny_attempt (wpAny_callSpecial?_slot (name := Str.ofString "__next__") hT F.slot_range_iterator_next (wpAny_call_entry F.slot_range_iterator_next hT F.entry_range_iterator_next ?_ (F.args_range_iterator_next_1 _))))
  show wpAny _ _ (field (.ref it) 0 >>= _) _ _ s
  refine wpAny_bind (wpAny_field hit rfl (x := rawInt x) rfl ?_)
  show wpAny _ _ (field (.ref it) 1 >>= _) _ _ s
  refine wpAny_bind (wpAny_field hit rfl (x := rawInt left) rfl ?_)
  show wpAny _ _ (field (.ref it) 2 >>= _) _ _ s
  refine wpAny_bind (wpAny_field hit rfl (x := rawInt step) rfl ?_)
  show wpAny _ _ (if left ≤ 0 then _ else _) _ _ s
  rw [if_pos hleft]
  refine wpAny_bind (wpAny_rule (wpAny_bind ?_))
  exact stop_told (A := A.in1) hh fun h' e k1 k2 => stop_seen k2 (hQ h' fun b o hb z => k1 b o z)
theorem chars_end {it : Addr} {n : String} {x : Str} {t : Tok} {i : Nat} {Q : Option Value → Shared → Prop} (hn : n = "str_ascii_iterator" ∨ n = "str_iterator") (hh : Hd A s.heap) (hit : s.heap.IsStrIter it n x t i) (hx : x.cps[i]? = none)
    (hQ : ∀ h', Heap.ExtBut it s.heap h' → Q none { s with heap := h' }) : wpAny (model prog w) A (pyNext (.ref it)) Q E s := by
  obtain ⟨o, ho, hc, hd⟩ := id hit
  unfold pyNext
  rcases hn with rfl | rfl
  · refine wpAny_bind (wpAny_attempt (wpAny_callSpecial?_slot (name := Str.ofString "__next__") hit.typeIs F.slot_str_ascii_iterator_next (wpAny_call_entry F.slot_str_ascii_iterator_next hit.typeIs F.entry_str_ascii_iterator_next ?_ (F.args_str_ascii_iterator_next_1 _))))
    show wpAny _ _ (field (.ref it) 0 >>= _) _ _ s
    refine wpAny_bind (wpAny_field ho hd (x := .str x t) rfl ?_)
    show wpAny _ _ (field (.ref it) 1 >>= _) _ _ s
    refine wpAny_bind (wpAny_field ho hd (x := .int i 0) rfl ?_)
    simp only [Int.toNat_natCast, hx]
    refine wpAny_bind (wpAny_rule (wpAny_bind (wpAny_setField ho hd (by simp) (wpAny_bind (wpAny_letGo ?_)))))
    refine stop_told (hh.update (A := A) ho hc _) fun h' e k1 k2 => stop_seen k2 (hQ h' fun b o hb z => k1 b o ?_)
    rw [Heap.get?_update_other _ _ (Ne.symm hb)]
    exact z
  · refine wpAny_bind (wpAny_attempt (wpAny_callSpecial?_slot (name := Str.ofString "__next__") hit.typeIs F.slot_str_iterator_next (wpAny_call_entry F.slot_str_iterator_next hit.typeIs F.entry_str_iterator_next ?_ (F.args_str_iterator_next_1 _))))
    show wpAny _ _ (field (.ref it) 0 >>= _) _ _ s
    refine wpAny_bind (wpAny_field ho hd (x := .str x t) rfl ?_)
    show wpAny _ _ (field (.ref it) 1 >>= _) _ _ s
    refine wpAny_bind (wpAny_field ho hd (x := .int i 0) rfl ?_)
    simp only [Int.toNat_natCast, hx]
    refine wpAny_bind (wpAny_rule (wpAny_bind (wpAny_setField ho hd (by simp) (wpAny_bind (wpAny_letGo ?_)))))
    refine stop_told (hh.update (A := A) ho hc _) fun h' e k1 k2 => stop_seen k2 (hQ h' fun b o hb z => k1 b o ?_)
    rw [Heap.get?_update_other _ _ (Ne.symm hb)]
    exact z
theorem tup_unpacked {env : Env} {elts : List Expr} {x1} {pos : Pos} {t : Addr} {items : Array Value} {Q : Unit → Shared → Prop} (hh : Hd A s.heap) (ht : IsTup s.heap t items) (hn : (assignEach elts env).length = items.size) (hstar : (assignEach elts env).findIdx? (·.1) = none)
    (h : ∀ h', Heap.ExtBut s.heap.objs.size s.heap h' → wpAny (model prog w) A (assignInOrder ((assignEach elts env).map (·.2)) items.toList) Q E { s with heap := h' }) : wpAny (model prog w) A (assign (.Tuple elts x1 pos) env (.ref t)) Q E s := by
  have ne : t ≠ s.heap.objs.size := by obtain ⟨o, ho, _⟩ := ht; exact Nat.ne_of_lt (Heap.lt_size ho)
  rw [assign_Tuple]
  refine wpAny_bind (wpAny_standAt ?_)
  unfold unpack
  rw [hn, hstar]
  refine wpAny_bind (wpAny_holding ?_)
  unfold unpackItems
  refine wpAny_bind ?_
  unfold notIterableAtAll
  refine wpAny_bind (wpAny_specialOf ht.typeIs slot_tuple_iter.lookup (wpAny_pure ?_))
  simp only [Bool.false_eq_true, if_false]
  refine wpAny_bind (wpAny_holding (iter_tuple ht ?_))
  refine wpAny_bind (wpAny_holding (draw_tuple ne items.size 0 _ _ ⟨_, Heap.get?_push_size _ rfl, rfl, rfl⟩ (ht.push _) (by omega) fun h₁ hit₁ hs₁ => ?_))
  rw [List.drop_zero, List.take_of_length_le (by simp)]
  rw [if_neg (by simp)]
  have k1 : ∀ b o, s.heap.get? b = some o → h₁.get? b = some o := fun b o z => (hs₁.2 b (Nat.ne_of_lt (Heap.lt_size z))).trans (Heap.get?_push_of_some _ z)
  have ht₁ : IsTup h₁ t items := (ht.push _).extBut hs₁.extBut ne
  refine wpAny_bind (wpAny_holding (tuple_end (s := { s with heap := h₁ }) (hh.keeps k1) hit₁ ht₁ (by simp) fun h₂ he₂ => ?_))
  simp only [Option.isSome_none, Bool.false_eq_true, if_false]
  exact wpAny_pure (h h₂ fun b o hb z => he₂ b o hb (k1 b o z))
end
end L2
set_option Elab.async false
set_option linter.all false
set_option maxRecDepth 100000
namespace L2
open PySem PySem.Spec PyProof.Rows
abbrev Key := Sum Int Str
def keyIs : Key → Value → Bool
  | .inl k, v => Value.isInt k v
  | .inr x, v => Value.isStrOf x v
def keyH (w : World) : Key → Int
  | .inl k => hashInt k
  | .inr x => hashStr w x
theorem keyIs_shape : ∀ {k : Key} {v : Value}, keyIs k v = true → (∃ i t, k = Sum.inl i ∧ v = Value.int i t) ∨ (∃ x t, k = Sum.inr x ∧ v = Value.str x t)
  | .inl i, v, h => by
    obtain ⟨t, e⟩ := Value.isInt_shape (k := i) (v := v) h
    exact .inl ⟨i, t, rfl, e⟩
  | .inr x, v, h => by
    obtain ⟨t, e⟩ := Value.isStrOf_shape (x := x) (v := v) h
    exact .inr ⟨x, t, rfl, e⟩
theorem keyIs_int (i : Int) (t : Tok) : keyIs (.inl i) (.int i t) = true := by simp [keyIs, Value.isInt]
theorem keyIs_str (x : Str) (t : Tok) : keyIs (.inr x) (.str x t) = true := by simp [keyIs, Value.isStrOf]
theorem key_ll (a b : Int) : decide ((Sum.inl a : Key) = Sum.inl b) = (a == b) := by
  by_cases e : a = b
  · subst e; simp
  · have h : ¬ (Sum.inl a : Key) = Sum.inl b := fun q => e (Sum.inl.inj q)
    rw [decide_eq_false h]
    exact (beq_eq_false_iff_ne.mpr e).symm
theorem key_rr (a b : Str) : decide ((Sum.inr a : Key) = Sum.inr b) = decide (a = b) := by
  by_cases e : a = b
  · subst e; simp
  · have h : ¬ (Sum.inr a : Key) = Sum.inr b := fun q => e (Sum.inr.inj q)
    rw [decide_eq_false h, decide_eq_false e]
theorem key_lr (a : Int) (b : Str) : decide ((Sum.inl a : Key) = Sum.inr b) = false := decide_eq_false (fun q => nomatch q)
theorem key_rl (a : Str) (b : Int) : decide ((Sum.inr a : Key) = Sum.inl b) = false := decide_eq_false (fun q => nomatch q)
def mixKind (prog : Program) (w : World) : PySem.KeyKind prog w Key where
  is := keyIs
  hash := keyH w
  inj := fun v a b ha hb => by
    rcases keyIs_shape ha with ⟨i, t, rfl, rfl⟩ | ⟨x, t, rfl, rfl⟩
    · rcases keyIs_shape hb with ⟨j, u, rfl, e⟩ | ⟨y, u, rfl, e⟩
      · injection e with e1 _; rw [e1]
      · exact nomatch e
    · rcases keyIs_shape hb with ⟨j, u, rfl, e⟩ | ⟨y, u, rfl, e⟩
      · exact nomatch e
      · injection e with e1 _; rw [e1]
  byValue := fun k v h => by
    rcases keyIs_shape h with ⟨i, t, rfl, rfl⟩ | ⟨x, t, rfl, rfl⟩ <;> rfl
  pyHash := fun hv h => by
    rcases keyIs_shape hv with ⟨i, t, rfl, rfl⟩ | ⟨x, t, rfl, rfl⟩
    · exact wpAny_pyHash_int h
    · exact wpAny_pyHash_str h
  eqBool := fun hu hv h => by
    rcases keyIs_shape hu with ⟨i, t, rfl, rfl⟩ | ⟨x, t, rfl, rfl⟩
    · rcases keyIs_shape hv with ⟨j, u, rfl, rfl⟩ | ⟨y, u, rfl, rfl⟩
      · rw [key_ll] at h; exact wpAny_eqBool_int h
      · rw [key_lr] at h; exact SeqAt.EqAt.int_str i t y u _ _ _ _ h
    · rcases keyIs_shape hv with ⟨j, u, rfl, rfl⟩ | ⟨y, u, rfl, rfl⟩
      · rw [key_rl] at h; exact SeqAt.EqAt.str_int x t j u _ _ _ _ h
      · rw [key_rr] at h; exact wpAny_eqBool_str h
  «strs» := fun k x t v h => by
    rcases keyIs_shape h with ⟨i, u, rfl, e⟩ | ⟨y, u, rfl, e⟩
    · exact nomatch e
    · injection e with e1 _
      subst e1
      cases v <;> rfl
theorem mixKind_int (prog : Program) (w : World) (i : Int) (t : Tok) : (mixKind prog w).is (.inl i) (.int i t) = true := keyIs_int i t
theorem mixKind_str (prog : Program) (w : World) (x : Str) (t : Tok) : (mixKind prog w).is (.inr x) (.str x t) = true := keyIs_str x t
end L2
namespace L2
open PySem PySem.Spec PyProof.Rows
inductive V where
  | non | bl (b : Bool) | int (i : Int) | str (x : Str) | byt (b : Array UInt8) | flt (b : UInt64) | ref (a : Addr) | ty (n : String)
  deriving DecidableEq
def RelV : V → Value → Prop
  | .non, u => u = Value.none
  | .bl b, u => u = Value.bool b
  | .int i, u => ∃ t, u = Value.int i t
  | .str x, u => ∃ t, u = Value.str x t
  | .byt b, u => ∃ t, u = Value.bytes b t
  | .flt b, u => ∃ t, u = Value.float b t
  | .ref a, u => u = Value.ref a
  | .ty n, u => u = Value.type n
abbrev Vals : List V → List Value → Prop := Paired RelV
theorem Vals.length {xs : List V} {us : List Value} (r : Vals xs us) : xs.length = us.length := Paired.length r
theorem Vals.get : ∀ {xs : List V} {us : List Value} {i : Nat} {x : V}, Vals xs us → xs[i]? = some x → ∃ u, us[i]? = some u ∧ RelV x u
  | _, _, _, _, .nil, e => by simp at e
  | _, _, 0, _, .cons r _, e => by simp at e; subst e; exact ⟨_, rfl, r⟩
  | _, _, i + 1, x, .cons _ t, e => by
    obtain ⟨u, h1, h2⟩ := Vals.get (i := i) (x := x) t (by simpa using e)
    exact ⟨u, by simpa using h1, h2⟩
theorem Vals.set {x : V} {u : Value} (r : RelV x u) : ∀ {xs : List V} {us : List Value} (i : Nat), Vals xs us → Vals (xs.set i x) (us.set i u)
  | _, _, _, .nil => .nil
  | _, _, 0, .cons _ t => .cons r t
  | _, _, i + 1, .cons q t => .cons q (Vals.set r i t)
theorem Vals.append : ∀ {xs ys : List V} {us ws : List Value}, Vals xs us → Vals ys ws → Vals (xs ++ ys) (us ++ ws)
  | _, _, _, _, .nil, s => s
  | _, _, _, _, .cons r t, s => .cons r (Vals.append t s)
theorem Vals.take : ∀ {xs : List V} {us : List Value} (n : Nat), Vals xs us → Vals (xs.take n) (us.take n)
  | _, _, 0, _ => .nil
  | _, _, _ + 1, .nil => .nil
  | _, _, n + 1, .cons r t => .cons r (Vals.take n t)
theorem Vals.drop : ∀ {xs : List V} {us : List Value} (n : Nat), Vals xs us → Vals (xs.drop n) (us.drop n)
  | _, _, 0, r => r
  | _, _, _ + 1, .nil => .nil
  | _, _, n + 1, .cons _ t => Vals.drop n t
def RelO : Option V → Option Value → Prop
  | some v, some u => RelV v u
  | none, none => True
  | _, _ => False
def KV {κ : Type} : List (κ × V) → List (κ × Value) → Prop := Paired fun (p : κ × V) (q : κ × Value) => p.1 = q.1 ∧ RelV p.2 q.2
def kV : Key → V
  | .inl i => .int i
  | .inr x => .str x
inductive HO where
  | lst (xs : List V)
  | tup (xs : List V)
  | dK (kvs : List (Key × V)) | dT (kvs : List (List Key × V))
  | set (S : Int → Bool) (n : Nat)
  | ins (C dx : Addr) (fs : List (Str × V))
  | own (x : Addr)
  | xd (fs : List (Str × V))
  | met (f x : Addr)
  | rng (lo hi : Int)
  | frz (o : Obj) (u : HO)
  | tbl (ps : Array Value)
  | ext (φ : Heap → Prop)
abbrev Hp := Addr → Option HO
def upd (H : Hp) (a : Addr) (o : HO) : Hp := fun b => if b = a then some o else H b
theorem upd_same {H : Hp} {a : Addr} {o : HO} : upd H a o a = some o := by unfold upd; rw [if_pos rfl]
theorem upd_ne {H : Hp} {a b : Addr} {o : HO} (h : b ≠ a) : upd H a o b = H b := by unfold upd; rw [if_neg h]
theorem upd_upd {H : Hp} {a : Addr} {o u : HO} : upd (upd H a o) a u = upd H a u := by
  funext b; unfold upd; split <;> rfl
theorem ne_of {H : Hp} {a b : Addr} {o u : HO} (h : H a = some o) (h' : H b = some u) (d : o ≠ u) : a ≠ b := by
  intro e; subst e; rw [h] at h'; exact d (Option.some.inj h')
theorem ne_of_none {H : Hp} {a b : Addr} {o : HO} (h : H a = some o) (h' : H b = none) : a ≠ b := by
  intro e; subst e; rw [h] at h'; cases h'
section
variable (P : Program) (w : World)
def ObjOk (H : Hp) (h : Heap) (a : Addr) : HO → Prop
  | .lst xs => xs.length ≤ sizeLine ∧ ∃ (its : List Value) (n : Nat), Vals xs its ∧ h.get? a = some { cls := .type "list", data := .seq its.toArray n }
  | .tup xs => xs.length ≤ sizeLine ∧ ∃ its : List Value, Vals xs its ∧ IsTup h a its.toArray
  | .dK kvs => kvs.length ≤ sizeLine ∧ (a == sysModules) = false ∧ ∃ vs, KV kvs vs ∧ h.DictOf (mixKind P w) a vs
  | .dT kvs => kvs.length ≤ sizeLine ∧ (a == sysModules) = false ∧ ∃ xs : List (List Key × Addr × Value),
      Paired (fun (p : List Key × V) (q : List Key × Addr × Value) => p.1 = q.1 ∧ H q.2.1 = some (.tup (p.1.map kV)) ∧ RelV p.2 q.2.2) kvs xs ∧
      ∃ o es ep, h.get? a = some o ∧ o.ExactDict ∧ o.data = .dict es ep ∧ es.toList = xs.map (entryOfKey (tupleKind (mixKind P w))) ∧ (xs.map (·.1)).Nodup
  | .set S n => h.SetOf (intKind P w) a S n
  | .ins C dx fs => H dx = some (.own a) ∧ fs.length ≤ 1000 ∧ dx ≠ a ∧ h.get? a = some (PySem.W.instObj C dx) ∧
      ∃ mA, h.Ns1 dx mA ∧ (∀ f, RelO (fs.lookup f) (mA f)) ∧ PySem.Within mA (fs.map (·.1))
  | .own _ => ∃ o, h.get? a = some o
  | .xd fs => ∃ mA, h.Ns1 a mA ∧ ∀ f, RelO (fs.lookup f) (mA f)
  | .rng lo hi => ∃ t u v, h.get? a = some { cls := .type "range", data := .fields #[.int lo t, .int hi u, .int 1 v] }
  | .frz o u => h.get? a = some o ∧ ObjOk H h a u
  | .tbl ps => h.get? a = some { cls := .none, data := .fields ps }
  | .met f x => h.get? a = some (PySem.W.methodObj (.ref f) (.ref x))
  | .ext φ => φ h ∧ (∃ o, h.get? a = some o) ∧ ∀ h1 h2 : Heap, φ h1 → (∀ o, h1.get? a = some o → h2.get? a = some o) → φ h2
def HOk (H : Hp) (h : Heap) : Prop := ∀ a o, H a = some o → ObjOk P w H h a o
end
section
variable {P : Program} {w : World} {H H' : Hp} {h h' : Heap} {a : Addr} {o : HO}
theorem ObjOk.lt (x : ObjOk P w H h a o) : a < h.objs.size := by
  cases o with
  | lst xs => obtain ⟨_, _, _, _, e⟩ := x; exact Heap.lt_size e
  | tup xs => obtain ⟨_, _, _, p⟩ := x; exact p.lt
  | dK kvs => obtain ⟨_, _, _, _, o, _, _, e, _⟩ := x; exact Heap.lt_size e
  | dT kvs => obtain ⟨_, _, _, _, o, _, _, e, _⟩ := x; exact Heap.lt_size e
  | set S n => obtain ⟨o, _, _, _, e, _⟩ := x; exact Heap.lt_size e
  | ins C dx fs => obtain ⟨_, _, _, e, _⟩ := x; exact Heap.lt_size e
  | own y => obtain ⟨_, e⟩ := x; exact Heap.lt_size e
  | xd fs => obtain ⟨_, ⟨_, _, _, e, _⟩, _⟩ := x; exact Heap.lt_size e
  | rng lo hi => obtain ⟨_, _, _, e⟩ := x; exact Heap.lt_size e
  | frz ob u => obtain ⟨e, _⟩ := x; exact Heap.lt_size e
  | tbl ps => exact Heap.lt_size (show h.get? a = some _ from x)
  | met f y => exact Heap.lt_size (show h.get? a = some _ from x)
  | ext φ => obtain ⟨_, ⟨_, e⟩, _⟩ := x; exact Heap.lt_size e
theorem Paired.mapP {α β : Type} {F G : α → β → Prop} : ∀ {l₁ : List α} {l₂ : List β}, Paired F l₁ l₂ → (∀ a b, F a b → G a b) → Paired G l₁ l₂
  | _, _, .nil, _ => .nil
  | _, _, .cons r t, f => .cons (f _ _ r) (Paired.mapP t f)
theorem ObjOk.stay (x : ObjOk P w H h a o) (k : ∀ b u, (b = a ∨ H b = some (.own a)) → h.get? b = some u → h'.get? b = some u)
    (ho : ∀ b, H b = some (.own a) → H' b = some (.own a)) (ht : ∀ b xs, H b = some (.tup xs) → H' b = some (.tup xs)) : ObjOk P w H' h' a o := by
  induction o with
  | lst xs => obtain ⟨z, its, n, r, e⟩ := x; exact ⟨z, its, n, r, k _ _ (.inl rfl) e⟩
  | tup xs => obtain ⟨z, its, r, ob, e, c⟩ := x; exact ⟨z, its, r, ob, k _ _ (.inl rfl) e, c⟩
  | dK kvs => obtain ⟨z, y, vs, r, ob, es, ep, e, c⟩ := x; exact ⟨z, y, vs, r, ob, es, ep, k _ _ (.inl rfl) e, c⟩
  | dT kvs =>
    obtain ⟨z, y, xs, r, ob, es, ep, e, c⟩ := x
    exact ⟨z, y, xs, Paired.mapP r fun p q z => ⟨z.1, ht _ _ z.2.1, z.2.2⟩, ob, es, ep, k _ _ (.inl rfl) e, c⟩
  | set S n => obtain ⟨ob, es, ep, t, e, c⟩ := x; exact ⟨ob, es, ep, t, k _ _ (.inl rfl) e, c⟩
  | ins C dx fs =>
    obtain ⟨d, z, ne, e, mA, ⟨od, es, ep, e2, c⟩, r⟩ := x
    exact ⟨ho _ d, z, ne, k _ _ (.inl rfl) e, mA, ⟨od, es, ep, k _ _ (.inr d) e2, c⟩, r⟩
  | own y => obtain ⟨ob, e⟩ := x; exact ⟨ob, k _ _ (.inl rfl) e⟩
  | xd fs => obtain ⟨mA, ⟨od, es, ep, e, c⟩, r⟩ := x; exact ⟨mA, ⟨od, es, ep, k _ _ (.inl rfl) e, c⟩, r⟩
  | rng lo hi => obtain ⟨t, u, v, e⟩ := x; exact ⟨t, u, v, k _ _ (.inl rfl) e⟩
  | frz ob u ih => obtain ⟨e, q⟩ := x; exact ⟨k _ _ (.inl rfl) e, ih q⟩
  | tbl ps =>
    have e : h.get? a = some { cls := .none, data := .fields ps } := x
    show h'.get? a = some { cls := .none, data := .fields ps }
    exact k a _ (.inl rfl) e
  | met f y =>
    have e : h.get? a = some (PySem.W.methodObj (.ref f) (.ref y)) := x
    show h'.get? a = some (PySem.W.methodObj (.ref f) (.ref y))
    exact k a _ (.inl rfl) e
  | ext φ => obtain ⟨p, ⟨o, e⟩, st⟩ := x; exact ⟨st _ _ p fun o q => k _ _ (.inl rfl) q, ⟨o, k _ _ (.inl rfl) e⟩, st⟩
theorem HOk.lt (x : HOk P w H h) (e : H a = some o) : a < h.objs.size := (x a o e).lt
theorem HOk.fresh (x : HOk P w H h) (e : h.objs.size ≤ a) : H a = none := by
  cases q : H a with
  | none => rfl
  | some u => exact absurd (Nat.lt_of_lt_of_le (x.lt q) e) (Nat.lt_irrefl _)
theorem HOk.kept (x : HOk P w H h) (k : ∀ b u, h.get? b = some u → h'.get? b = some u) : HOk P w H h' := fun a o e =>
  (x a o e).stay (fun b u _ q => k b u q) (fun _ q => q) fun _ _ q => q
theorem HOk.laid (x : HOk P w H h) (k : ∀ b u, h.get? b = some u → h'.get? b = some u) (hp : h.objs.size ≤ a) (new : ObjOk P w (upd H a o) h' a o) : HOk P w (upd H a o) h' := fun b u e => by
  have hn := x.fresh hp
  by_cases hb : b = a
  · subst hb; rw [upd_same] at e; cases e; exact new
  · rw [upd_ne hb] at e
    exact (x b u e).stay (fun c v _ q => k c v q) (fun c q => by rw [upd_ne (ne_of_none q hn)]; exact q) fun c xs q => by rw [upd_ne (ne_of_none q hn)]; exact q
end
def Rd (H : Hp) (a : Addr) (u : HO) : Prop := H a = some u ∨ ∃ o, H a = some (.frz o u)
theorem Rd.of {H : Hp} {a : Addr} {u : HO} (h : H a = some u) : Rd H a u := .inl h
theorem Rd.ok {P : Program} {w : World} {H : Hp} {h : Heap} {a : Addr} {u : HO} (r : Rd H a u) (x : HOk P w H h) : ObjOk P w H h a u := by
  rcases r with r | ⟨o, r⟩
  · exact x a u r
  · obtain ⟨_, q⟩ := x a _ r
    exact q
def Mut : Option HO → Prop
  | some (.lst _) => True
  | some (.dK _) => True
  | some (.dT _) => True
  | some (.set _ _) => True
  | some (.ins _ _ _) => True
  | some (.ext _) => True
  | _ => False
section
variable {P : Program} {w : World} {H : Hp} {h h' : Heap} {x e : Addr} {o' : HO}
theorem HOk.write (ok : HOk P w H h) (mu : Mut (H x)) (he : e = x ∨ H e = some (.own x)) (k : ∀ b u, b ≠ e → h.get? b = some u → h'.get? b = some u) (heo : ∃ u, h'.get? e = some u)
    (new : ObjOk P w (upd H x o') h' x o') : HOk P w (upd H x o') h' := fun b u q => by
  have nown : ∀ c y, H c = some (.own y) → c ≠ x := fun c y r z => by subst z; rw [r] at mu; exact mu
  have ntup : ∀ c xs, H c = some (.tup xs) → c ≠ x := fun c xs r z => by subst z; rw [r] at mu; exact mu
  by_cases hb : b = x
  · subst hb; rw [upd_same] at q; cases q; exact new
  · rw [upd_ne hb] at q
    by_cases hbe : b = e
    · have q' : H b = some (.own x) := by
        rcases he with z | z
        · exact absurd (hbe.trans z) hb
        · rw [hbe]; exact z
      rw [q] at q'; cases q'
      obtain ⟨v, hv⟩ := heo
      exact ⟨v, by rw [hbe]; exact hv⟩
    · refine (ok b u q).stay (fun c v hc r => k c v ?_ r) (fun c r => by rw [upd_ne (nown c b r)]; exact r) fun c xs r => by rw [upd_ne (ntup c xs r)]; exact r
      rcases hc with rfl | hc
      · exact hbe
      · rintro rfl
        rcases he with z | z
        · exact nown c b hc z
        · rw [hc] at z; cases z; exact hb rfl
end
structure Un (fs ex : List Addr) (H H' : Hp) (h h' : Heap) : Prop where
  keep : ∀ b o, h.get? b = some o → H b = none → b ∉ fs → b ∉ ex → h'.get? b = some o
  slot : ∀ b o, h.get? b = some o → H b = none → b ∈ fs → b ∉ ex → ∃ sl, h'.get? b = some { o with slots := sl }
  free : ∀ b o, h.get? b = some o → H b = none → b ∉ ex → H' b = none
  there : ∀ b o, h.get? b = some o → b ∉ ex → ∃ o', h'.get? b = some o'
  tups : ∀ b xs, H b = some (.tup xs) → H' b = some (.tup xs)
  frzs : ∀ b o u, H b = some (.frz o u) → H' b = some (.frz o u)
  tbls : ∀ b ps, H b = some (.tbl ps) → ∃ more, H' b = some (.tbl (ps ++ more))
section
variable {fs fs' ex ex' : List Addr} {H H1 H2 : Hp} {h h1 h2 h' : Heap} {a x e : Addr} {o : HO}
theorem Un.any (u : Un fs ex H H1 h h1) {b : Addr} {ob : Obj} (q : h.get? b = some ob) (n : H b = none) (hx : b ∉ ex) : ∃ sl, h1.get? b = some { ob with slots := sl } := by
  by_cases hb : b ∈ fs
  · exact u.slot b ob q n hb hx
  · exact ⟨ob.slots, u.keep b ob q n hb hx⟩
theorem Un.trans (a : Un fs ex H H1 h h1) (b : Un fs ex H1 H2 h1 h2) : Un fs ex H H2 h h2 where
  keep := fun c ob q n hc hx => b.keep c ob (a.keep c ob q n hc hx) (a.free c ob q n hx) hc hx
  slot := fun c ob q n hc hx => by
    obtain ⟨sl, e1⟩ := a.slot c ob q n hc hx
    obtain ⟨sl', e2⟩ := b.slot c _ e1 (a.free c ob q n hx) hc hx
    exact ⟨sl', e2⟩
  free := fun c ob q n hx => by
    obtain ⟨o', e1⟩ := a.there c ob q hx
    exact b.free c o' e1 (a.free c ob q n hx) hx
  there := fun c ob q hx => by
    obtain ⟨o', e1⟩ := a.there c ob q hx
    exact b.there c o' e1 hx
  tups := fun c xs q => b.tups c xs (a.tups c xs q)
  frzs := fun c ob xs q => b.frzs c ob xs (a.frzs c ob xs q)
  tbls := fun c ps q => by
    obtain ⟨m1, e1⟩ := a.tbls c ps q
    obtain ⟨m2, e2⟩ := b.tbls c _ e1
    exact ⟨m1 ++ m2, by rw [e2, Array.append_assoc]⟩
theorem Un.kept (k : ∀ b u, h.get? b = some u → h'.get? b = some u) : Un fs ex H H h h' :=
  ⟨fun b ob q _ _ _ => k b ob q, fun b ob q _ _ _ => ⟨ob.slots, k b ob q⟩, fun _ _ _ n _ => n, fun b ob q _ => ⟨ob, k b ob q⟩, fun _ _ q => q, fun _ _ _ q => q, fun _ ps q => ⟨#[], by rw [q]; simp⟩⟩
theorem Un.refl : Un fs ex H H h h := Un.kept fun _ _ q => q
theorem Un.laid (k : ∀ b u, h.get? b = some u → h'.get? b = some u) (hp : h.objs.size ≤ a) (hn : H a = none) : Un fs ex H (upd H a o) h h' where
  keep := fun b u q _ _ _ => k b u q
  slot := fun b u q _ _ _ => ⟨u.slots, k b u q⟩
  free := fun b u q n _ => by rw [upd_ne (Nat.ne_of_lt (Nat.lt_of_lt_of_le (Heap.lt_size q) hp))]; exact n
  there := fun b u q _ => ⟨u, k b u q⟩
  tups := fun b xs q => by rw [upd_ne (ne_of_none q hn)]; exact q
  frzs := fun b u xs q => by rw [upd_ne (ne_of_none q hn)]; exact q
  tbls := fun b ps q => ⟨#[], by rw [upd_ne (ne_of_none q hn), q]; simp⟩
theorem Un.write (mu : Mut (H x)) (he : e = x ∨ H e = some (.own x)) (k : ∀ b u, b ≠ e → h.get? b = some u → h'.get? b = some u) (heo : ∃ u, h'.get? e = some u) : Un fs ex H (upd H x o) h h' := by
  have hx : ∀ b, H b = none → b ≠ x := fun b n z => by subst z; rw [n] at mu; exact mu
  have hb : ∀ b, H b = none → b ≠ e := fun b n z => by
    subst z
    rcases he with r | r
    · exact hx b n r
    · rw [n] at r; cases r
  have hm : ∀ b u, H b = some u → ¬ Mut (some u) → b ≠ x := fun b u q nm z => by subst z; rw [q] at mu; exact nm mu
  refine ⟨fun b u q n _ _ => k b u (hb b n) q, fun b u q n _ _ => ⟨u.slots, k b u (hb b n) q⟩, fun b u q n _ => by rw [upd_ne (hx b n)]; exact n, fun b u q _ => ?_,
    fun b xs q => by rw [upd_ne (hm b _ q fun z => z)]; exact q, fun b u xs q => by rw [upd_ne (hm b _ q fun z => z)]; exact q, fun b ps q => ⟨#[], by rw [upd_ne (hm b _ q fun z => z), q]; simp⟩⟩
  by_cases hbe : b = e
  · subst hbe; exact heo
  · exact ⟨u, k b u hbe q⟩
theorem Un.mono (u : Un fs ex H H1 h h1) (hs : ∀ b ∈ fs, b ∈ fs') (hx : ∀ b ∈ ex, b ∈ ex') : Un fs' ex' H H1 h h1 :=
  ⟨fun b ob q n hb he => u.keep b ob q n (fun z => hb (hs b z)) fun z => he (hx b z), fun _ _ q n _ he => u.any q n fun z => he (hx _ z), fun b ob q n he => u.free b ob q n fun z => he (hx b z), fun b ob q he => u.there b ob q fun z => he (hx b z), u.tups, u.frzs, u.tbls⟩
end
def trk (h : Heap) (H : Hp) : List Addr := (List.range h.objs.size).filter fun a => (H a).isSome
def hidT (h : Heap) (H : Hp) : Heap := PySem.W.hideAll h (trk h H)
theorem hidT_size (h : Heap) (H : Hp) : (hidT h H).objs.size = h.objs.size := PySem.W.hideAll_size _ _
theorem hidT_get {h : Heap} {H : Hp} {b : Addr} {o : Obj} (e : h.get? b = some o) (n : H b = none) : (hidT h H).get? b = some o :=
  PySem.W.hideAll_get _ e fun hm => by
    have q : (H b).isSome = true := (List.mem_filter.mp hm).2
    rw [n] at q; simp at q
theorem of_hidT {h : Heap} {H : Hp} {b : Addr} {o : Obj} (e : (hidT h H).get? b = some o) : h.get? b = some o ∧ H b = none := by
  have e' : h.get? b = some o := PySem.W.of_hideAll (trk h H) e
  refine ⟨e', ?_⟩
  cases q : H b with
  | none => rfl
  | some x =>
    have hm : b ∈ trk h H := List.mem_filter.mpr ⟨List.mem_range.mpr (Heap.lt_size e'), by simp [q]⟩
    have z : (hidT h H).get? b = none := PySem.W.hideAll_none (trk h H) hm
    rw [z] at e; cases e
def allNews (g h : Heap) (L : Addr) : List (Addr × Obj) := (List.range h.objs.size).filterMap fun a => if a = L ∨ (g.get? a).isSome = true then none else (h.get? a).map fun o => (a, o)
def rest (g h : Heap) (L d : Addr) : List (Addr × Obj) := (allNews g h L).filter fun p => decide (p.1 ≠ d)
end L2
namespace L2
open PySem PySem.Spec PyProof.Rows
structure Mod (K : PySem.W.Frag) (mg : Str → Option Value) (base : Heap) : Prop where
  kin : K.In base
  glob : base.Ns mainGlobals mg
  blt : ∃ mb, base.Ns builtinsNs mb ∧ ∀ x : Str, x ≠ "__name__" → mb x = bootBuiltins x
  nolimit : base.NoLimit
structure Cx where
  prog : Program
  w : World
  K : PySem.W.Frag
  mg : Str → Option Value
  base : Heap
  A : Around
  N : List Str
  s₀ : Shared
  H₀ : Hp
  env : Env
  outer : List Env
  stack : List Env
  ex : List Addr
  fn : Str → Bool
  calm : Bool
  pn : List (Addr × Obj)
  xe : Value → Shared → Prop
def frs (l : List Env) : List Addr := l.filterMap (·.frame)
abbrev Cx.fs (X : Cx) : List Addr := frs X.outer
def Vis (sc : Scope) (x : Str) : Prop := sc.names.lookup x = some .local ∨ sc.names.lookup x = some .cell ∨ sc.names.lookup x = some .free
def Loc (sc : Scope) (x : Str) : Prop := sc.names.lookup x = some .local ∨ sc.names.lookup x = some .cell
def Look (env : Env) (h : Heap) (m : Str → Option Value) (x : Str) (u : Value) : Prop :=
  (env.kindOf x = some .local ∧ m x = some u) ∨ ((env.kindOf x = some .cell ∨ env.kindOf x = some .free) ∧ ∃ c, env.cells.lookup x = some c ∧ h.IsCell c (some u))
structure Cx.Ok (X : Cx) : Prop where
  mod : Mod X.K X.mg X.base
  kind : X.env.scope.kind = .function
  glob : X.env.globals = mainGlobals
  blt : X.env.builtins = builtinsNs
  above : X.s₀.heap.objs.size ≤ X.env.locals
  inj : ∀ x y c, X.env.cells.lookup x = some c → X.env.cells.lookup y = some c → x = y
  has : ∀ x, (X.env.kindOf x = some .cell ∨ X.env.kindOf x = some .free) → ∃ c, X.env.cells.lookup x = some c
  cab : ∀ x c, X.fn x = true → X.env.cells.lookup x = some c → X.s₀.heap.objs.size ≤ c
  hd : X.calm = true → X.A.handled = none
  frames : X.A.frames = some X.stack
  stk : X.stack = X.outer ∨ (X.stack = X.env :: X.outer ∧ X.env.frame = some X.env.locals)
  exf : ∀ b ∈ X.ex, b ≠ X.env.locals ∧ ∀ x c, X.env.cells.lookup x = some c → c ≠ b
  bs : ∀ b o, X.base.get? b = some o → X.s₀.heap.get? b = some o ∧ X.H₀ b = none
  bsz : X.base.objs.size ≤ X.s₀.heap.objs.size
  noex : ∀ b o, X.base.get? b = some o → b ∉ X.ex
  exfs : ∀ b ∈ X.ex, b ∉ X.fs
  funs : X.s₀.heap.FunFrames X.base X.outer
  frf : ∀ b ∈ X.fs, X.H₀ b = none
structure Inv (X : Cx) (pins : List (Addr × Obj)) (σ : List (Option V)) (H : Hp) (s : Shared) : Prop where
  ok : X.Ok
  os : s.os = X.s₀.os
  bare : AllBare s.gens
  base : Un X.fs X.ex X.H₀ H X.s₀.heap s.heap
  loc : ∃ m, s.heap.Ns X.env.locals m ∧ ∀ (i : Nat) (x : Str) (v : V), X.N[i]? = some x → σ[i]? = some (some v) → Vis X.env.scope x → ∃ u, RelV v u ∧ Look X.env s.heap m x u
  cell : ∀ x c, X.env.cells.lookup x = some c → ∃ v, s.heap.IsCell c v
  free : H X.env.locals = none
  freeC : ∀ x c, X.env.cells.lookup x = some c → H c = none
  pin : ∀ p ∈ X.pn ++ pins, s.heap.get? p.1 = some p.2 ∧ H p.1 = none ∧ p.1 ≠ X.env.locals ∧ p.1 ∉ X.fs ∧ ∀ v, p.2.data ≠ .cell v
  hok : HOk X.prog X.w H s.heap
  len : σ.length = X.N.length
section
variable {X : Cx} {pins : List (Addr × Obj)} {σ : List (Option V)} {H H' : Hp} {s : Shared} {h' : Heap}
theorem Cx.Ok.nofr (ok : X.Ok) {b : Addr} {o : Obj} (e : X.base.get? b = some o) : b ∉ X.fs := fun hb => by
  have := (ok.funs.mem hb).1
  rw [e] at this; cases this
theorem Inv.bs (I : Inv X pins σ H s) : ∀ b o, X.base.get? b = some o → s.heap.get? b = some o ∧ H b = none := fun b o e =>
  ⟨I.base.keep b o (I.ok.bs b o e).1 (I.ok.bs b o e).2 (I.ok.nofr e) (I.ok.noex b o e), I.base.free b o (I.ok.bs b o e).1 (I.ok.bs b o e).2 (I.ok.noex b o e)⟩
theorem Inv.bk (I : Inv X pins σ H s) : ∀ b o, X.base.get? b = some o → s.heap.get? b = some o := fun b o e => (I.bs b o e).1
theorem Inv.mod (I : Inv X pins σ H s) : Mod X.K X.mg X.base := I.ok.mod
theorem Inv.kIn (I : Inv X pins σ H s) : X.K.In s.heap := I.ok.mod.kin.keeps I.bk
theorem Inv.nolimit (I : Inv X pins σ H s) : s.heap.NoLimit := I.ok.mod.nolimit.keeps I.bk
theorem Inv.fr (I : Inv X pins σ H s) : ∃ m, Fr X.base X.env.locals s.heap m :=
  let ⟨m, hn, _⟩ := I.loc
  ⟨m, hn, I.bk, Nat.le_trans I.ok.bsz I.ok.above⟩
theorem Inv.lt (I : Inv X pins σ H s) : X.env.locals < s.heap.objs.size := let ⟨_, hn, _⟩ := I.loc; hn.lt
theorem Inv.sz (I : Inv X pins σ H s) : X.s₀.heap.objs.size ≤ s.heap.objs.size := Nat.le_trans I.ok.above (Nat.le_of_lt I.lt)
theorem Inv.nofs (I : Inv X pins σ H s) {a : Addr} (h : s.heap.objs.size ≤ a) : a ∉ X.fs := fun hb => by
  obtain ⟨_, o, ho, _⟩ := I.ok.funs.mem hb
  exact absurd (Nat.lt_of_lt_of_le (Heap.lt_size ho) (Nat.le_trans I.sz h)) (Nat.lt_irrefl _)
theorem Inv.cne (I : Inv X pins σ H s) : ∀ x c, X.env.cells.lookup x = some c → c ≠ X.env.locals := fun x c e z => by
  obtain ⟨v, o, ho, hd⟩ := I.cell x c e
  obtain ⟨m, ⟨o', es, ep, ho', hd', _⟩, _⟩ := I.loc
  rw [z, ho'] at ho; cases ho; rw [hd'] at hd; cases hd
theorem Inv.funs (I : Inv X pins σ H s) : s.heap.FunFrames X.base X.outer := by
  have all : ∀ (l : List Env), (∀ b ∈ frs l, b ∈ X.fs) → X.s₀.heap.FunFrames X.base l → s.heap.FunFrames X.base l := by
    intro l
    induction l with
    | nil => intro _ _; trivial
    | cons env r ih =>
      intro hs hl
      obtain ⟨hk, ⟨L, o, hf, hn, ho, hd⟩, hr⟩ := hl
      have hL : L ∈ X.fs := hs L (by unfold frs; rw [List.filterMap_cons, hf]; exact List.mem_cons_self)
      obtain ⟨sl, e⟩ := I.base.slot L o ho (I.ok.frf L hL) hL fun z => I.ok.exfs L z hL
      exact ⟨hk, ⟨L, _, hf, hn, e, hd⟩, ih (fun b hb => hs b (by unfold frs; rw [List.filterMap_cons, hf]; exact List.mem_cons_of_mem _ hb)) hr⟩
  exact all X.outer (fun _ hb => hb) I.ok.funs
theorem Inv.stack (I : Inv X pins σ H s) : s.heap.FunFrames X.base X.stack := by
  rcases I.ok.stk with e | ⟨e, hf⟩
  · rw [e]; exact I.funs
  · rw [e]
    obtain ⟨m, hn, _⟩ := I.loc
    refine .cons (by rw [I.ok.kind]; decide) hf hn ?_ I.funs
    exact Heap.get?_none_of_le (Nat.le_trans I.ok.bsz I.ok.above)
theorem Inv.stkSub (I : Inv X pins σ H s) : ∀ b ∈ frs X.stack, b ∈ X.env.locals :: X.fs := fun b hb => by
  rcases I.ok.stk with e | ⟨e, hf⟩
  · rw [e] at hb; exact List.mem_cons_of_mem _ hb
  · rw [e] at hb
    unfold frs at hb
    rw [List.filterMap_cons, hf] at hb
    exact hb
theorem Inv.stkFree (I : Inv X pins σ H s) : ∀ b ∈ frs X.stack, H b = none := fun b hb => by
  rcases List.mem_cons.mp (I.stkSub b hb) with e | hb
  · rw [e]; exact I.free
  · obtain ⟨_, o, ho, _⟩ := I.ok.funs.mem hb
    exact I.base.free b o ho (I.ok.frf b hb) fun z => I.ok.exfs b z hb
theorem Inv.step {g' : Array GenState} {t' : Nat} {d' : Drawn} {ch : List Addr} (I : Inv X pins σ H s)
    (hch : ∀ b ∈ ch, (b ∈ X.ex ∨ X.s₀.heap.objs.size ≤ b) ∧ b ≠ X.env.locals ∧ (∀ x c, X.env.cells.lookup x = some c → c ≠ b) ∧ ∀ p ∈ X.pn ++ pins, p.1 ≠ b)
    (keep : ∀ b o, b ≠ X.env.locals → b ∉ X.fs → b ∉ ch → s.heap.get? b = some o → H b = none → h'.get? b = some o)
    (slot : ∀ b o, b ≠ X.env.locals → b ∈ X.fs → b ∉ ch → s.heap.get? b = some o → H b = none → ∃ sl, h'.get? b = some { o with slots := sl }) (free : ∀ b o, b ∉ ch → s.heap.get? b = some o → H b = none → H' b = none)
    (there : ∀ b o, b ∉ ch → s.heap.get? b = some o → ∃ o', h'.get? b = some o')
    (tups : ∀ b xs, H b = some (.tup xs) → H' b = some (.tup xs)) (frzs : ∀ b o u, H b = some (.frz o u) → H' b = some (.frz o u)) (tbls : ∀ b ps, H b = some (.tbl ps) → ∃ more, H' b = some (.tbl (ps ++ more)))
    (ns : ∀ m, s.heap.Ns X.env.locals m → h'.Ns X.env.locals m) (hok : HOk X.prog X.w H' h') (hg : AllBare g') :
    Inv X pins σ H' { s with heap := h', gens := g', drawn := d', toks := t' } := by
  have neL : ∀ b o, X.s₀.heap.get? b = some o → b ≠ X.env.locals := fun b o e => Nat.ne_of_lt (Nat.lt_of_lt_of_le (Heap.lt_size e) I.ok.above)
  have neC : ∀ b o, X.s₀.heap.get? b = some o → b ∉ X.ex → b ∉ ch := fun b o e hx hb => by
    rcases (hch b hb).1 with z | z
    · exact hx z
    · exact absurd (Nat.lt_of_lt_of_le (Heap.lt_size e) z) (Nat.lt_irrefl _)
  have cellK : ∀ x c, X.env.cells.lookup x = some c → ∀ v, s.heap.IsCell c v → h'.IsCell c v := fun x c e v ⟨o, ho, hd⟩ => by
    have nch : c ∉ ch := fun z => (hch c z).2.2.1 x c e rfl
    by_cases hc : c ∈ X.fs
    · obtain ⟨sl, q⟩ := slot c o (I.cne x c e) hc nch ho (I.freeC x c e)
      exact ⟨_, q, hd⟩
    · exact ⟨o, keep c o (I.cne x c e) hc nch ho (I.freeC x c e), hd⟩
  refine ⟨I.ok, I.os, hg, ⟨fun b o e n hb hx => ?_, fun b o e n hb hx => ?_, fun b o e n hx => ?_, fun b o e hx => ?_, fun b xs e => tups b xs (I.base.tups b xs e), fun b o xs e => frzs b o xs (I.base.frzs b o xs e), fun b ps e => ?_⟩, ?_, fun x c e => ?_, ?_, fun x c e => ?_, fun p hp => ?_, hok, I.len⟩
  · exact keep b o (neL b o e) hb (neC b o e hx) (I.base.keep b o e n hb hx) (I.base.free b o e n hx)
  · obtain ⟨sl, e1⟩ := I.base.slot b o e n hb hx
    obtain ⟨sl', e2⟩ := slot b _ (neL b o e) hb (neC b o e hx) e1 (I.base.free b o e n hx)
    exact ⟨sl', e2⟩
  · obtain ⟨o', e1⟩ := I.base.there b o e hx
    exact free b o' (neC b o e hx) e1 (I.base.free b o e n hx)
  · obtain ⟨o', e1⟩ := I.base.there b o e hx
    exact there b o' (neC b o e hx) e1
  · obtain ⟨m1, e1⟩ := I.base.tbls b ps e
    obtain ⟨m2, e2⟩ := tbls b _ e1
    exact ⟨m1 ++ m2, by rw [e2, Array.append_assoc]⟩
  · obtain ⟨m, hn, hl⟩ := I.loc
    refine ⟨m, ns m hn, fun i x v e1 e2 e3 => ?_⟩
    obtain ⟨u, r, l⟩ := hl i x v e1 e2 e3
    refine ⟨u, r, ?_⟩
    rcases l with l | ⟨k, c, e, z⟩
    · exact .inl l
    · exact .inr ⟨k, c, e, cellK x c e _ z⟩
  · obtain ⟨v, z⟩ := I.cell x c e
    exact ⟨v, cellK x c e v z⟩
  · obtain ⟨m, ⟨o, _, _, ho, _⟩, _⟩ := I.loc
    exact free _ o (fun z => (hch _ z).2.1 rfl) ho I.free
  · obtain ⟨v, o, ho, hd⟩ := I.cell x c e
    exact free c o (fun z => (hch c z).2.2.1 x c e rfl) ho (I.freeC x c e)
  · obtain ⟨e, n, ne, nf, d⟩ := I.pin p hp
    have nch : p.1 ∉ ch := fun z => (hch p.1 z).2.2.2 p hp rfl
    exact ⟨keep p.1 p.2 ne nf nch e n, free p.1 p.2 nch e n, ne, nf, d⟩
theorem Inv.un {t' : Nat} (I : Inv X pins σ H s) (u : Un X.fs [] H H' s.heap h') (hok : HOk X.prog X.w H' h') : Inv X pins σ H' { s with heap := h', toks := t' } := by
  obtain ⟨m, ⟨o, es, ep, ho, r⟩, _⟩ := id I.loc
  obtain ⟨sl, hL⟩ := u.any ho I.free (by simp)
  exact I.step (g' := s.gens) (d' := s.drawn) (ch := []) (fun _ z => nomatch z) (fun b o _ hb _ e n => u.keep b o e n hb (by simp)) (fun b o _ hb _ e n => u.slot b o e n hb (by simp)) (fun b o _ e n => u.free b o e n (by simp)) (fun b o _ e => u.there b o e (by simp)) u.tups u.frzs u.tbls (fun m' hm => by
    obtain ⟨o', es', ep', ho', r'⟩ := hm
    rw [ho] at ho'; cases ho'
    exact ⟨_, es', ep', hL, r'⟩) hok I.bare
theorem Inv.call {g' : Array GenState} {t' : Nat} {d' : Drawn} {ch : List Addr} (I : Inv X pins σ H s) (u : Un (frs X.stack) ch H H' s.heap h') (hok : HOk X.prog X.w H' h') (hg : AllBare g')
    (hch : ∀ b ∈ ch, (b ∈ X.ex ∨ X.s₀.heap.objs.size ≤ b) ∧ b ≠ X.env.locals ∧ (∀ x c, X.env.cells.lookup x = some c → c ≠ b) ∧ ∀ p ∈ X.pn ++ pins, p.1 ≠ b) :
    Inv X pins σ H' { s with heap := h', gens := g', drawn := d', toks := t' } := by
  obtain ⟨m, ⟨o, es, ep, ho, r⟩, _⟩ := id I.loc
  obtain ⟨sl, hL⟩ := u.any ho I.free fun z => (hch _ z).2.1 rfl
  exact I.step (ch := ch) hch (fun b o hL hb hc e n => u.keep b o e n (fun z => (List.mem_cons.mp (I.stkSub b z)).elim hL hb) hc) (fun b o _ _ hc e n => u.any e n hc) (fun b o hc e n => u.free b o e n hc) (fun b o hc e => u.there b o e hc) u.tups u.frzs u.tbls (fun m' hm => by
    obtain ⟨o', es', ep', ho', r'⟩ := hm
    rw [ho] at ho'; cases ho'
    exact ⟨_, es', ep', hL, r'⟩) hok hg
theorem Inv.turned {t' : Nat} {it : Addr} (I : Inv X pins σ H s) (k : ∀ b o, b ≠ it → s.heap.get? b = some o → h'.get? b = some o) (hn : H it = none) (hL : it ≠ X.env.locals)
    (h1 : it ∈ X.ex ∨ X.s₀.heap.objs.size ≤ it) (h2 : ∀ x c, X.env.cells.lookup x = some c → c ≠ it) (h3 : ∀ p ∈ X.pn ++ pins, p.1 ≠ it) : Inv X pins σ H { s with heap := h', toks := t' } := by
  have nit : ∀ b u, H b = some u → b ≠ it := fun b u e z => by rw [z, hn] at e; cases e
  refine I.step (g' := s.gens) (d' := s.drawn) (ch := [it]) (fun b hb => ?_) (fun b o _ _ hc e _ => k b o (fun z => hc (by simp [z])) e) (fun b o _ _ hc e _ => ⟨o.slots, k b o (fun z => hc (by simp [z])) e⟩) (fun _ _ _ _ n => n)
    (fun b o hc e => ⟨o, k b o (fun z => hc (by simp [z])) e⟩) (fun _ _ e => e) (fun _ _ _ e => e) (fun b ps e => ⟨#[], by rw [e]; simp⟩) (fun m hm => ?_) (fun b u e => ?_) I.bare
  · have e : b = it := by simpa using hb
    subst e
    exact ⟨h1, hL, h2, h3⟩
  · obtain ⟨o, es, ep, ho, r⟩ := hm
    exact ⟨o, es, ep, k _ o (Ne.symm hL) ho, r⟩
  · refine (I.hok b u e).stay (fun c v hc q => k c v ?_ q) (fun _ q => q) fun _ _ q => q
    rcases hc with z | z
    · rw [z]; exact nit b u e
    · exact nit c _ z
theorem Inv.tok (I : Inv X pins σ H s) (t : Nat) : Inv X pins σ H { s with toks := t } := I.un (h' := s.heap) (t' := t) Un.refl I.hok
theorem Inv.kept {t' : Nat} (I : Inv X pins σ H s) (k : ∀ b u, s.heap.get? b = some u → h'.get? b = some u) : Inv X pins σ H { s with heap := h', toks := t' } := I.un (Un.kept k) (I.hok.kept k)
theorem Inv.laid {a : Addr} {o : HO} {t' : Nat} (I : Inv X pins σ H s) (k : ∀ b u, s.heap.get? b = some u → h'.get? b = some u) (hp : s.heap.objs.size ≤ a) (new : ObjOk X.prog X.w (upd H a o) h' a o) :
    Inv X pins σ (upd H a o) { s with heap := h', toks := t' } := I.un (Un.laid k hp (I.hok.fresh hp)) (I.hok.laid k hp new)
theorem Inv.write {x e : Addr} {o : HO} {t' : Nat} (I : Inv X pins σ H s) (mu : Mut (H x)) (he : e = x ∨ H e = some (.own x)) (k : ∀ b u, b ≠ e → s.heap.get? b = some u → h'.get? b = some u) (heo : ∃ u, h'.get? e = some u)
    (new : ObjOk X.prog X.w (upd H x o) h' x o) : Inv X pins σ (upd H x o) { s with heap := h', toks := t' } := I.un (Un.write mu he k heo) (I.hok.write mu he k heo new)
theorem Inv.weak {σ' : List (Option V)} (I : Inv X pins σ H s) (hl : σ'.length = σ.length) (w : ∀ (i : Nat) v, σ'[i]? = some (some v) → σ[i]? = some (some v)) : Inv X pins σ' H s :=
  ⟨I.ok, I.os, I.bare, I.base, let ⟨m, hn, hl'⟩ := I.loc; ⟨m, hn, fun i x v e1 e2 e3 => hl' i x v e1 (w i v e2) e3⟩, I.cell, I.free, I.freeC, I.pin, I.hok, hl.trans I.len⟩
def Calm (X : Cx) : Prop := X.calm = true ∨ ∃ (ea C : Addr) (dx : Option Addr) (vs : Array Value) (sl : Array (Option Value)), X.A.handled = some (.ref ea) ∧ vs[2]? = some Value.none ∧ (ea, (⟨.ref C, dx, .fields vs, sl⟩ : Obj)) ∈ X.pn
theorem calm0 {X : Cx} (h : X.calm = true) : Calm X := .inl h
theorem Inv.calm (I : Inv X pins σ H s) (c : Calm X) : Hd X.A s.heap := by
  rcases c with c | ⟨ea, C, dx, vs, sl, h1, h2, h3⟩
  · exact .inl (I.ok.hd c)
  · exact .inr ⟨ea, C, dx, vs, sl, h1, (I.pin _ (List.mem_append_left _ h3)).1, h2⟩
theorem Inv.pins_of {pins' : List (Addr × Obj)} (I : Inv X pins σ H s) (h : ∀ p ∈ pins', s.heap.get? p.1 = some p.2 ∧ H p.1 = none ∧ p.1 ≠ X.env.locals ∧ p.1 ∉ X.fs ∧ ∀ v, p.2.data ≠ .cell v) : Inv X pins' σ H s :=
  ⟨I.ok, I.os, I.bare, I.base, I.loc, I.cell, I.free, I.freeC, fun p hp => (List.mem_append.mp hp).elim (fun z => I.pin p (List.mem_append_left _ z)) (h p), I.hok, I.len⟩
theorem nodup_ix {N : List Str} (hN : N.Nodup) {i j : Nat} {x : Str} (a : N[i]? = some x) (b : N[j]? = some x) : i = j := by
  obtain ⟨h1, e1⟩ := List.getElem?_eq_some_iff.mp a
  obtain ⟨h2, e2⟩ := List.getElem?_eq_some_iff.mp b
  exact (List.getElem_inj hN).mp (e1.trans e2.symm)
theorem store_ok2 {M : Model} {A : Around} {E : Value → Shared → Prop} {i : Nat} {x : Str} {v : V} {u : Value} {Q : Unit → Shared → Prop} (I : Inv X pins σ H s) (hN : X.N.Nodup) (hi : X.N[i]? = some x) (hx : Loc X.env.scope x) (r : RelV v u)
    (h : ∀ s', Inv X pins (σ.set i (some v)) H s' → (∃ a, Heap.SameBut a s.heap s'.heap ∧ (a = X.env.locals ∨ X.env.cells.lookup x = some a)) → Q () s') (hf : X.fn x = true ∨ X.env.scope.names.lookup x = some .local := by first | exact .inl rfl | exact .inr rfl | assumption) : wpAny M A (storeName X.env x u) Q E s := by
  obtain ⟨m, hn, hl⟩ := id I.loc
  have hcls : (X.env.scope.kind == .class || (X.env.scope.kind == .module && X.env.locals != X.env.globals)) = false := by rw [I.ok.kind]; rfl
  have hiσ : i < σ.length := by rw [I.len]; exact (List.getElem?_eq_some_iff.mp hi).1
  have cne := I.cne
  have tracked : ∀ {a : Addr} {h' : Heap}, (∃ o, s.heap.get? a = some o ∧ H a = none) → Heap.SameBut a s.heap h' → HOk X.prog X.w H h' := fun {a h'} ha hs b ob e => by
    obtain ⟨_, _, hfree⟩ := ha
    refine (I.hok b ob e).stay (fun c w' hc q => (hs.2 c ?_).trans q) (fun _ q => q) fun _ _ q => q
    rintro rfl
    rcases hc with rfl | hc
    · rw [hfree] at e; cases e
    · rw [hfree] at hc; cases hc
  rcases hx with hk | hk
  · refine wpAny_storeName_local hk hn (fun h' hn' hs => ?_) hcls
    obtain ⟨oL, _, _, hoL, _⟩ := id hn
    refine h _ ⟨I.ok, I.os, I.bare, ⟨fun b o e n hb hx => ?_, fun b o e n hb hx => ?_, I.base.free, fun b o e hx => ?_, I.base.tups, I.base.frzs, I.base.tbls⟩, ⟨_, hn', fun j y v' e1 e2 e3 => ?_⟩, fun y c e => ?_, I.free, I.freeC, fun p hp => ?_, tracked ⟨oL, hoL, I.free⟩ hs, by simpa using I.len⟩ ⟨_, hs, .inl rfl⟩
    · exact (hs.2 b (Nat.ne_of_lt (Nat.lt_of_lt_of_le (Heap.lt_size e) I.ok.above))).trans (I.base.keep b o e n hb hx)
    · obtain ⟨sl, e1⟩ := I.base.slot b o e n hb hx
      exact ⟨sl, (hs.2 b (Nat.ne_of_lt (Nat.lt_of_lt_of_le (Heap.lt_size e) I.ok.above))).trans e1⟩
    · obtain ⟨o', e1⟩ := I.base.there b o e hx
      exact ⟨o', (hs.2 b (Nat.ne_of_lt (Nat.lt_of_lt_of_le (Heap.lt_size e) I.ok.above))).trans e1⟩
    · by_cases hj : j = i
      · subst hj
        rw [hi] at e1; cases e1
        rw [List.getElem?_set_self hiσ] at e2
        cases e2
        exact ⟨u, r, .inl ⟨hk, by simp⟩⟩
      · rw [List.getElem?_set_ne (Ne.symm hj)] at e2
        obtain ⟨u', r', q⟩ := hl j y v' e1 e2 e3
        refine ⟨u', r', ?_⟩
        rcases q with ⟨k, e⟩ | ⟨k, c, e, z⟩
        · refine .inl ⟨k, ?_⟩
          have : y ≠ x := fun e => hj (nodup_ix hN e1 (e ▸ hi))
          simp [this, e]
        · exact .inr ⟨k, c, e, z.sameBut hs (cne y c e)⟩
    · obtain ⟨w', z⟩ := I.cell y c e
      exact ⟨w', z.sameBut hs (cne y c e)⟩
    · obtain ⟨e, n, ne, nf, d⟩ := I.pin p hp
      exact ⟨(hs.2 p.1 ne).trans e, n, ne, nf, d⟩
  · have hfn : X.fn x = true := by
      rcases hf with z | z
      · exact z
      · rw [z] at hk; cases hk
    obtain ⟨c, hc⟩ := I.ok.has x (.inl hk)
    obtain ⟨w', z⟩ := I.cell x c hc
    refine wpAny_storeName_cell I.ok.kind hk hc z (fun h' hc' hs => ?_)
    obtain ⟨oc, hoc, hocd⟩ := id z
    refine h { s with heap := h' } ⟨I.ok, I.os, I.bare, ⟨fun b o e n hb hx => ?_, fun b o e n hb hx => ?_, I.base.free, fun b o e hx => ?_, I.base.tups, I.base.frzs, I.base.tbls⟩, ⟨m, hn.sameBut hs (Ne.symm (cne x c hc)), fun j y v' e1 e2 e3 => ?_⟩, fun y c' e => ?_, I.free, I.freeC, fun p hp => ?_, tracked ⟨oc, hoc, I.freeC x c hc⟩ hs, by simpa using I.len⟩ ⟨c, hs, .inr hc⟩
    · exact (hs.2 b (Nat.ne_of_lt (Nat.lt_of_lt_of_le (Heap.lt_size e) (I.ok.cab x c hfn hc)))).trans (I.base.keep b o e n hb hx)
    · obtain ⟨sl, e1⟩ := I.base.slot b o e n hb hx
      exact ⟨sl, (hs.2 b (Nat.ne_of_lt (Nat.lt_of_lt_of_le (Heap.lt_size e) (I.ok.cab x c hfn hc)))).trans e1⟩
    · obtain ⟨o', e1⟩ := I.base.there b o e hx
      exact ⟨o', (hs.2 b (Nat.ne_of_lt (Nat.lt_of_lt_of_le (Heap.lt_size e) (I.ok.cab x c hfn hc)))).trans e1⟩
    · by_cases hj : j = i
      · subst hj
        rw [hi] at e1; cases e1
        rw [List.getElem?_set_self hiσ] at e2
        cases e2
        exact ⟨u, r, .inr ⟨.inl hk, c, hc, hc'⟩⟩
      · rw [List.getElem?_set_ne (Ne.symm hj)] at e2
        obtain ⟨u', r', q⟩ := hl j y v' e1 e2 e3
        refine ⟨u', r', ?_⟩
        rcases q with q | ⟨k, c', e, z'⟩
        · exact .inl q
        · refine .inr ⟨k, c', e, z'.sameBut hs ?_⟩
          rintro rfl
          exact hj (nodup_ix hN e1 (I.ok.inj _ _ _ e hc ▸ hi))
    · by_cases hcc : c' = c
      · subst hcc; exact ⟨_, hc'⟩
      · obtain ⟨w2, z2⟩ := I.cell y c' e
        exact ⟨w2, z2.sameBut hs hcc⟩
    · obtain ⟨e, n, ne, nf, d⟩ := I.pin p hp
      refine ⟨(hs.2 p.1 ?_).trans e, n, ne, nf, d⟩
      intro q
      rw [q, hoc] at e
      have q' : oc = p.2 := Option.some.inj e
      exact d w' (by rw [← q']; exact hocd)
theorem store_ok {M : Model} {A : Around} {E : Value → Shared → Prop} {i : Nat} {x : Str} {v : V} {u : Value} {Q : Unit → Shared → Prop} (I : Inv X pins σ H s) (hN : X.N.Nodup) (hi : X.N[i]? = some x) (hx : Loc X.env.scope x) (r : RelV v u)
    (h : ∀ s', Inv X pins (σ.set i (some v)) H s' → Q () s') (hf : X.fn x = true ∨ X.env.scope.names.lookup x = some .local := by first | exact .inl rfl | exact .inr rfl | assumption) : wpAny M A (storeName X.env x u) Q E s :=
  store_ok2 I hN hi hx r (fun s' I' _ => h s' I') hf
theorem Inv.call' {s' : Shared} {ch : List Addr} (I : Inv X pins σ H s) (ho : s'.os = s.os) (u : Un (frs X.stack) ch H H' s.heap s'.heap) (hok : HOk X.prog X.w H' s'.heap) (hg : AllBare s'.gens)
    (hch : ∀ b ∈ ch, (b ∈ X.ex ∨ X.s₀.heap.objs.size ≤ b) ∧ b ≠ X.env.locals ∧ (∀ x c, X.env.cells.lookup x = some c → c ≠ b) ∧ ∀ p ∈ X.pn ++ pins, p.1 ≠ b) : Inv X pins σ H' s' := by
  obtain ⟨h', g', d', t', o'⟩ := s'
  have e : o' = s.os := ho
  subst e
  exact I.call (g' := g') (t' := t') (d' := d') u hok hg hch
end
abbrev XK := Value → Option Addr → Hp → Prop
abbrev St := List (Option V)
abbrev VK := V → Hp → Prop
abbrev TE := St → Hp → VK → Prop
abbrev TT := St → Hp → (Bool → Hp → Prop) → Prop
abbrev TA := St → Hp → (List V → Hp → Prop) → Prop
structure Ends where
  nx : St → Hp → Prop
  rt : VK
  bk : St → Hp → Prop := fun _ _ => False
  ct : St → Hp → Prop := fun _ _ => False
abbrev TS := Ends → St → Hp → Prop
def EP (X : Cx) (pins : List (Addr × Obj)) (σ : St) (Q : VK) (u : Value) (s' : Shared) : Prop := ∃ v H', Inv X pins σ H' s' ∧ RelV v u ∧ Q v H'
def TP (X : Cx) (pins : List (Addr × Obj)) (σ : St) (Q : Bool → Hp → Prop) (b : Bool) (s' : Shared) : Prop := ∃ H', Inv X pins σ H' s' ∧ Q b H'
def AP (X : Cx) (pins : List (Addr × Obj)) (σ : St) (Q : List V → Hp → Prop) (us : List Value) (s' : Shared) : Prop := ∃ vs H', Inv X pins σ H' s' ∧ Vals vs us ∧ Q vs H'
def SP (X : Cx) (pins : List (Addr × Obj)) (D : Ends) (f : Flow) (s' : Shared) : Prop :=
  match f with
  | .next => ∃ σ' H', Inv X pins σ' H' s' ∧ D.nx σ' H'
  | .brk => ∃ σ' H', Inv X pins σ' H' s' ∧ D.bk σ' H'
  | .cont => ∃ σ' H', Inv X pins σ' H' s' ∧ D.ct σ' H'
  | .ret u => ∃ v σ' H', Inv X pins σ' H' s' ∧ RelV v u ∧ D.rt v H'
def PE (X : Cx) (e : Expr) (t : TE) : Prop :=
  ∀ (pins : List (Addr × Obj)) (s : Shared) (σ : St) (H : Hp) (Q : VK), Inv X pins σ H s → t σ H Q → wpAny (model X.prog X.w) X.A (eval e X.env) (EP X pins σ Q) X.xe s
def PT (X : Cx) (e : Expr) (t : TT) : Prop :=
  ∀ (pins : List (Addr × Obj)) (s : Shared) (σ : St) (H : Hp) (Q : Bool → Hp → Prop), Inv X pins σ H s → t σ H Q → wpAny (model X.prog X.w) X.A (isTrue e X.env (eval e X.env)) (TP X pins σ Q) X.xe s
def PW (X : Cx) (e : Expr) (t : TT) : Prop :=
  ∀ (whole : Sem Value) (pins : List (Addr × Obj)) (s : Shared) (σ : St) (H : Hp) (Q : Bool → Hp → Prop), Inv X pins σ H s → t σ H Q → wpAny (model X.prog X.w) X.A (isTrue e X.env whole) (TP X pins σ Q) X.xe s
theorem PW.pt {X : Cx} {e : Expr} {t : TT} (h : PW X e t) : PT X e t := h _
def PA (X : Cx) (es : List Expr) (t : TA) : Prop :=
  ∀ (pos : Pos) (pins : List (Addr × Obj)) (s : Shared) (σ : St) (H : Hp) (Q : List V → Hp → Prop), Inv X pins σ H s → t σ H Q → wpAny (model X.prog X.w) X.A (spliced (backTo pos (starEach es X.env))) (AP X pins σ Q) X.xe s
def PS (X : Cx) (st : Stmt) (t : TS) : Prop :=
  ∀ (pins : List (Addr × Obj)) (s : Shared) (σ : St) (H : Hp) (D : Ends), Inv X pins σ H s → t D σ H → wpAny (model X.prog X.w) X.A (exec st X.env) (SP X pins D) X.xe s
def PSs (X : Cx) (st : List Stmt) (t : TS) : Prop :=
  ∀ (pins : List (Addr × Obj)) (s : Shared) (σ : St) (H : Hp) (D : Ends), Inv X pins σ H s → t D σ H → wpAny (model X.prog X.w) X.A (execs st X.env) (SP X pins D) X.xe s
theorem thn {α : Type} {t : Sem α} {Q Q' : α → Shared → Prop} {M : Model} {A : Around} {E : Value → Shared → Prop} {s : Shared} (h : wpAny M A t Q E s) (hQ : ∀ a s, Q a s → Q' a s) : wpAny M A t Q' E s := wpAny_mono h hQ fun _ _ x => x
end L2
namespace L2
open PySem PySem.Spec PyProof.Rows
section
variable {X : Cx}
def tVar (i : Nat) : TE := fun σ H Q => ∃ v, σ[i]? = some (some v) ∧ Q v H
def tC (v : V) : TE := fun _ H Q => Q v H
theorem pe_var {i : Nat} {x : Str} {pos : Pos} (hN : X.N[i]? = some x) (hv : Vis X.env.scope x) (hd : (x == ("__debug__" : Str)) = false := by decide) (hcd : (x == ("__classdict__" : Str)) = false := by decide) : PE X (.Name x pos) (tVar i) := by
  intro pins s σ H Q I h
  obtain ⟨v, e, h⟩ := h
  obtain ⟨m, hn, hl⟩ := I.loc
  obtain ⟨u, r, l⟩ := hl i x v hN e hv
  have fin : EP X pins σ Q u s := ⟨v, H, I, r, h⟩
  rcases l with ⟨hk, hm⟩ | ⟨hk, c, hc, hcell⟩
  · exact wpAny_Name (wpAny_loadName_local I.ok.kind hk hn hm fin) hd
  · rcases hk with hk | hk
    · exact wpAny_Name (wpAny_loadName_cell I.ok.kind hk hc hcell fin) hd
    · exact wpAny_Name (wpAny_loadName_free I.ok.kind hk hc hcell fin hcd) hd
theorem pe_int {i j pos} : PE X (.Constant (.int i) j pos) (tC (.int i)) := fun _ _ _ H _ I h => wpAny_Constant_int ⟨.int i, H, I.tok _, ⟨_, rfl⟩, h⟩
theorem pe_bl {b j pos} : PE X (.Constant (.bool b) j pos) (tC (.bl b)) := fun _ _ _ H _ I h => Constant_bool ⟨.bl b, H, I, rfl, h⟩
theorem pe_non {j pos} : PE X (.Constant .none j pos) (tC .non) := fun _ _ _ H _ I h => Constant_none ⟨.non, H, I, rfl, h⟩
theorem pe_str {x j pos} : PE X (.Constant (.str x) j pos) (tC (.str x)) := fun _ _ _ H _ I h => Calls.Constant_str ⟨.str x, H, I.tok _, ⟨_, rfl⟩, h⟩
def Gl (X : Cx) (x : Str) : Prop := X.env.kindOf x = some .globalImplicit
theorem ld_glob {E : Value → Shared → Prop} {pins : List (Addr × Obj)} {s : Shared} {σ : St} {H : Hp} {x : Str} {u : Value} {pos : Pos} {Q : Value → Shared → Prop} (I : Inv X pins σ H s) (hg : Gl X x) (hm : X.mg x = some u) (h : Q u s)
    (hd : (x == ("__debug__" : Str)) = false := by decide) : wpAny (model X.prog X.w) X.A (eval (.Name x pos) X.env) Q E s :=
  Calls.Name_function_global I.ok.kind hg (Calls.loadGlobal_global (by rw [I.ok.glob]; exact I.mod.glob.keeps I.bk) hm h) hd
theorem ld_blt {E : Value → Shared → Prop} {pins : List (Addr × Obj)} {s : Shared} {σ : St} {H : Hp} {x : Str} {u : Value} {pos : Pos} {Q : Value → Shared → Prop} (I : Inv X pins σ H s) (hg : Gl X x) (hm : X.mg x = none) (hv : bootBuiltins x = some u) (h : Q u s)
    (hn : x ≠ "__name__" := by decide) (hd : (x == ("__debug__" : Str)) = false := by decide) : wpAny (model X.prog X.w) X.A (eval (.Name x pos) X.env) Q E s := by
  obtain ⟨mb, h1, h2⟩ := I.mod.blt
  exact Calls.Name_function_global I.ok.kind hg (Calls.loadGlobal_builtin (by rw [I.ok.glob]; exact I.mod.glob.keeps I.bk) hm (by rw [I.ok.blt]; exact h1.keeps I.bk) ((h2 x hn).trans hv) h) hd
theorem pe_glob {x : Str} {v : V} {u : Value} {pos : Pos} (hg : Gl X x) (hm : X.mg x = some u) (r : RelV v u) (hd : (x == ("__debug__" : Str)) = false := by decide) : PE X (.Name x pos) (tC v) :=
  fun _ _ _ H _ I h => ld_glob I hg hm ⟨v, H, I, r, h⟩ hd
theorem pe_bltn {x : Str} {v : V} {u : Value} {pos : Pos} (hg : Gl X x) (hm : X.mg x = none) (hv : bootBuiltins x = some u) (r : RelV v u) (hn : x ≠ "__name__" := by decide) (hd : (x == ("__debug__" : Str)) = false := by decide) : PE X (.Name x pos) (tC v) :=
  fun _ _ _ H _ I h => ld_blt I hg hm hv ⟨v, H, I, r, h⟩ hn hd
variable {a b : Expr} {ta tb : TE} {pos : Pos}
def tB (t : TE) : TT := fun σ H Q => t σ H fun x H1 => ∃ c, x = .bl c ∧ Q c H1
theorem pt_val {e : Expr} {t : TE} (h : PE X e t) (he : ∀ whole, isTrue e X.env whole = (do let v ← whole; standAt e.pos; holding [v] (truthy v)) := by intro _; rfl) : PT X e (tB t) := by
  intro pins s σ H Q I hw
  refine isTrue_plain (thn (h pins s σ H _ I hw) fun v s1 ⟨x, H1, I1, r1, q1⟩ => ?_) (he _)
  obtain ⟨d, rfl, q⟩ := q1
  cases r1
  exact wpAny_truthy_bool ⟨H1, I1, q⟩
variable {tA tB' : TT} {rest : List Expr}
def tAnd (t u : TT) : TT := fun σ H Q => t σ H fun c H1 => if c = true then u σ H1 Q else Q false H1
def tOr (t u : TT) : TT := fun σ H Q => t σ H fun c H1 => if c = true then Q true H1 else u σ H1 Q
def tNot (t : TT) : TT := fun σ H Q => t σ H fun c H1 => Q (!c) H1
theorem pw_or1 (ha : PT X a tA) : PW X (.BoolOp .Or [a] pos) tA := by
  intro wh pins s σ H Q I h
  refine isTrue_or (thn (ha pins s σ H Q I h) fun c s1 e => ?_)
  cases c with
  | false => exact isTrue_or_nil e
  | true => exact e
theorem pw_or (ha : PT X a tA) (hb : PW X (.BoolOp .Or (b :: rest) pos) tB') : PW X (.BoolOp .Or (a :: b :: rest) pos) (tOr tA tB') := by
  intro wh pins s σ H Q I h
  refine isTrue_or (thn (ha pins s σ H _ I h) fun c s1 ⟨H1, I1, q1⟩ => ?_)
  cases c with
  | true => exact ⟨H1, I1, q1⟩
  | false => exact hb wh pins s1 σ H1 Q I1 q1
theorem pt_not (ha : PT X a tA) : PT X (.UnaryOp .Not a pos) (tNot tA) := by
  intro pins s σ H Q I h
  exact isTrue_not (ha pins s σ H (fun c H1 => Q (!c) H1) I h)
def tAndV (ta tb : TE) : TE := fun σ H Q => ta σ H fun x H1 => ∃ c, x = .bl c ∧ if c = true then tb σ H1 Q else Q (.bl false) H1
def tOrV (ta tb : TE) : TE := fun σ H Q => ta σ H fun x H1 => ∃ c, x = .bl c ∧ if c = true then Q (.bl true) H1 else tb σ H1 Q
def tNotV (ta : TE) : TE := fun σ H Q => ta σ H fun x H1 => ∃ c, x = .bl c ∧ Q (.bl (!c)) H1
theorem pe_one {op} {t : TE} (h : PE X a t) : PE X (.BoolOp op [a] pos) t := fun pins s σ H Q I hw => BoolOp_one (h pins s σ H Q I hw)
theorem pe_and (ha : PE X a ta) (hb : PE X (.BoolOp .And (b :: rest) pos) tb) : PE X (.BoolOp .And (a :: b :: rest) pos) (tAndV ta tb) := by
  intro pins s σ H Q I h
  refine BoolOp_and (thn (ha pins s σ H _ I h) fun v s1 ⟨x, H1, I1, r1, q1⟩ => ?_)
  obtain ⟨c, rfl, q1⟩ := q1
  cases r1
  refine wpAny_truthy_bool ?_
  cases c with
  | true => exact hb pins s1 σ H1 Q I1 q1
  | false => exact ⟨.bl false, H1, I1, rfl, q1⟩
theorem pe_not (ha : PE X a ta) : PE X (.UnaryOp .Not a pos) (tNotV ta) := by
  intro pins s σ H Q I h
  refine UnaryOp_ (thn (ha pins s σ H _ I h) fun v s1 ⟨x, H1, I1, r1, q1⟩ => ?_)
  obtain ⟨c, rfl, q1⟩ := q1
  cases r1
  exact not_of (wpAny_truthy_bool ⟨.bl (!c), H1, I1, rfl, q1⟩)
def tIf (t : TT) (ta tb : TE) : TE := fun σ H Q => t σ H fun c H1 => if c = true then ta σ H1 Q else tb σ H1 Q
theorem pe_ifExp {c : Expr} (hc : PT X c tA) (ha : PE X a ta) (hb : PE X b tb) : PE X (.IfExp c a b pos) (tIf tA ta tb) := by
  intro pins s σ H Q I h
  refine wpAny_IfExp (thn (hc pins s σ H _ I h) fun d s1 ⟨H1, I1, q1⟩ => ?_)
  cases d with
  | true => exact ha pins s1 σ H1 Q I1 q1
  | false => exact hb pins s1 σ H1 Q I1 q1
end
end L2
namespace L2
open PySem PySem.Spec PyProof.Rows
def SqL (K : PySem.W.Frag) (H : Hp) (a : Addr) (xs : List V) : Prop :=
  Rd H a (.lst xs) ∨
    ∃ (o : Obj) (its : Array Value) (n : Nat), K.lookup a = some o ∧ o.cls = .type "list" ∧ o.dict = none ∧ o.data = .seq its n ∧ its.size ≤ sizeLine ∧ Vals xs its.toList
def SqT (K : PySem.W.Frag) (H : Hp) (a : Addr) (xs : List V) : Prop :=
  Rd H a (.tup xs) ∨
    ∃ (o : Obj) (its : Array Value) (n : Nat), K.lookup a = some o ∧ o.cls = .type "tuple" ∧ o.data = .seq its n ∧ its.size ≤ sizeLine ∧ Vals xs its.toList
def absV : Value → Option V
  | .none => some .non
  | .bool b => some (.bl b)
  | .int i _ => some (.int i)
  | .str x _ => some (.str x)
  | .bytes b _ => some (.byt b)
  | .float b _ => some (.flt b)
  | .ref a => some (.ref a)
  | .type n => some (.ty n)
  | _ => none
theorem RelV.abs {x : V} {u : Value} (r : RelV x u) : absV u = some x := by
  cases x with
  | non => cases r; rfl
  | bl _ => cases r; rfl
  | int _ => obtain ⟨t, rfl⟩ := r; rfl
  | str _ => obtain ⟨t, rfl⟩ := r; rfl
  | byt _ => obtain ⟨t, rfl⟩ := r; rfl
  | flt _ => obtain ⟨t, rfl⟩ := r; rfl
  | ref _ => cases r; rfl
  | ty _ => cases r; rfl
theorem RelV.inj {x y : V} {u : Value} (r : RelV x u) (q : RelV y u) : x = y := Option.some.inj (r.abs.symm.trans q.abs)
theorem Vals.inj : ∀ {xs ys : List V} {us : List Value}, Vals xs us → Vals ys us → xs = ys
  | _, _, _, .nil, .nil => rfl
  | _, _, _, .cons r t, .cons r' t' => by rw [r.inj r', Vals.inj t t']
section
variable {X : Cx} {pins : List (Addr × Obj)} {σ : St} {H : Hp} {s : Shared} {a : Addr} {xs ys : List V}
theorem SqL.of {K : PySem.W.Frag} (h : H a = some (.lst xs)) : SqL K H a xs := .inl (.inl h)
theorem SqT.of {K : PySem.W.Frag} (h : H a = some (.tup xs)) : SqT K H a xs := .inl (.inl h)
theorem Inv.list (I : Inv X pins σ H s) (h : SqL X.K H a xs) : ∃ its : List Value, Vals xs its ∧ PlainL s.heap a its.toArray ∧ xs.length ≤ sizeLine := by
  rcases h with h | ⟨o, its, n, hk, hc, hd, hs, hz, r⟩
  · obtain ⟨z, its, n, r, e⟩ := h.ok I.hok
    exact ⟨its, r, ⟨_, n, e, rfl, rfl, rfl⟩, z⟩
  · refine ⟨its.toList, r, ⟨o, n, I.kIn a o hk, hc, hd, by simpa using hs⟩, ?_⟩
    have e := r.length
    simp only [Array.length_toList] at e
    omega
theorem Inv.tuple (I : Inv X pins σ H s) (h : SqT X.K H a xs) : ∃ its : List Value, Vals xs its ∧ IsTup s.heap a its.toArray ∧ xs.length ≤ sizeLine := by
  rcases h with h | ⟨o, its, n, hk, hc, hs, hz, r⟩
  · obtain ⟨z, its, r, p⟩ := h.ok I.hok
    exact ⟨its, r, p, z⟩
  · refine ⟨its.toList, r, ⟨o, I.kIn a o hk, hc, n, by simpa using hs⟩, ?_⟩
    have e := r.length
    simp only [Array.length_toList] at e
    omega
theorem Inv.list_inj (I : Inv X pins σ H s) (h : SqL X.K H a xs) (h' : SqL X.K H a ys) : xs = ys := by
  obtain ⟨its, r, ⟨o, n, e, _, _, d⟩, _⟩ := I.list h
  obtain ⟨its', r', ⟨o', n', e', _, _, d'⟩, _⟩ := I.list h'
  rw [e] at e'; cases e'
  rw [d] at d'
  injection d' with d1 _
  have : its = its' := by simpa using congrArg Array.toList d1
  subst this
  exact r.inj r'
end
abbrev Cx.wish (X : Cx) (E : Value → Shared → Prop) : Cx := { X with xe := E }
abbrev Cx.nox (X : Cx) : Cx := X.wish fun _ _ => False
theorem Cx.Ok.wish {X : Cx} (ok : X.Ok) (E : Value → Shared → Prop) : (X.wish E).Ok :=
  ⟨ok.mod, ok.kind, ok.glob, ok.blt, ok.above, ok.inj, ok.has, ok.cab, ok.hd, ok.frames, ok.stk, ok.exf, ok.bs, ok.bsz, ok.noex, ok.exfs, ok.funs, ok.frf⟩
theorem Cx.Ok.unwish {X : Cx} {E : Value → Shared → Prop} (ok : (X.wish E).Ok) : X.Ok :=
  ⟨ok.mod, ok.kind, ok.glob, ok.blt, ok.above, ok.inj, ok.has, ok.cab, ok.hd, ok.frames, ok.stk, ok.exf, ok.bs, ok.bsz, ok.noex, ok.exfs, ok.funs, ok.frf⟩
section
variable {X : Cx} {pins : List (Addr × Obj)} {σ : St} {H : Hp} {s : Shared} {E : Value → Shared → Prop}
theorem Inv.wish (I : Inv X pins σ H s) (E : Value → Shared → Prop) : Inv (X.wish E) pins σ H s := ⟨I.ok.wish E, I.os, I.bare, I.base, I.loc, I.cell, I.free, I.freeC, I.pin, I.hok, I.len⟩
theorem Inv.unwish (I : Inv (X.wish E) pins σ H s) : Inv X pins σ H s := ⟨I.ok.unwish, I.os, I.bare, I.base, I.loc, I.cell, I.free, I.freeC, I.pin, I.hok, I.len⟩
theorem SP.unwish {D : Ends} {f : Flow} {s' : Shared} (h : SP (X.wish E) pins D f s') : SP X pins D f s' := by
  cases f with
  | next => obtain ⟨σ', H', I, q⟩ := h; exact ⟨σ', H', I.unwish, q⟩
  | brk => obtain ⟨σ', H', I, q⟩ := h; exact ⟨σ', H', I.unwish, q⟩
  | cont => obtain ⟨σ', H', I, q⟩ := h; exact ⟨σ', H', I.unwish, q⟩
  | ret u => obtain ⟨v, σ', H', I, r, q⟩ := h; exact ⟨v, σ', H', I.unwish, r, q⟩
theorem PE.nox {e : Expr} {t : TE} (h : PE X.nox e t) : PE X e t := fun pins s σ H Q I hw =>
  wpAny_mono (h pins s σ H Q (I.wish _) hw) (fun _ _ ⟨v, H', I', r, q⟩ => ⟨v, H', I'.unwish, r, q⟩) fun _ _ z => False.elim z
theorem PT.nox {e : Expr} {t : TT} (h : PT X.nox e t) : PT X e t := fun pins s σ H Q I hw =>
  wpAny_mono (h pins s σ H Q (I.wish _) hw) (fun _ _ ⟨H', I', q⟩ => ⟨H', I'.unwish, q⟩) fun _ _ z => False.elim z
theorem PSs.nox {st : List Stmt} {t : TS} (h : PSs X.nox st t) : PSs X st t := fun pins s σ H D I hw =>
  wpAny_mono (h pins s σ H D (I.wish _) hw) (fun _ _ q => q.unwish) fun _ _ z => False.elim z
end
section
variable {X : Cx} {st : Stmt} {rest : List Stmt} {t u : TS} {e : Expr} {te : TE} {pos : Pos}
def tNext : TS := fun D σ H => D.nx σ H
def tSeq (t u : TS) : TS := fun D σ H => t { D with nx := u D } σ H
theorem pss_nil : PSs X [] tNext := fun _ _ σ H _ I h => wpAny_execs_nil ⟨σ, H, I, h⟩
theorem pss_cons (h1 : PS X st t) (h2 : PSs X rest u) : PSs X (st :: rest) (tSeq t u) := by
  intro pins s σ H D I h
  refine wpAny_execs_cons (thn (h1 pins s σ H { D with nx := u D } I h) fun f s1 q => ?_)
  cases f with
  | next =>
    obtain ⟨σ', H', I', q⟩ := q
    exact h2 pins s1 σ' H' D I' q
  | ret v => exact q
  | brk => exact q
  | cont => exact q
theorem pss_one (h1 : PS X st t) : PSs X [st] t := by
  intro pins s σ H D I h
  refine wpAny_execs_cons (thn (h1 pins s σ H D I h) fun f s1 q => ?_)
  cases f with
  | next => exact wpAny_execs_nil q
  | ret v => exact q
  | brk => exact q
  | cont => exact q
def tBreak : TS := fun D σ H => D.bk σ H
def tCont : TS := fun D σ H => D.ct σ H
theorem Inv.quiet {pins : List (Addr × Obj)} {σ : St} {H : Hp} {s : Shared} (I : Inv X pins σ H s) : interactive X.env = false := by simp [interactive, I.ok.kind]
def tDrop (te : TE) : TS := fun D σ H => te σ H fun _ H1 => D.nx σ H1
theorem ps_expr (he : PE X e te) (hs : swapsWith e none pos.line X.env = pure false := by rfl) : PS X (.Expr e pos) (tDrop te) := by
  intro pins s σ H D I h
  exact wpAny_Expr_any (thn (he pins s σ H _ I h) fun v s1 ⟨x, H1, I1, r1, q1⟩ => ⟨σ, H1, I1, q1⟩) I.quiet hs
def tRet (te : TE) : TS := fun D σ H => te σ H D.rt
theorem ps_ret (he : PE X e te) : PS X (.Return (some e) pos) (tRet te) := by
  intro pins s σ H D I h
  exact wpAny_Return_some (thn (he pins s σ H _ I h) fun v s1 ⟨x, H1, I1, r1, q1⟩ => ⟨x, σ, H1, I1, r1, q1⟩)
def tRetN : TS := fun D _ H => D.rt .non H
def tIfS (c : TT) (t u : TS) : TS := fun D σ H => c σ H fun b H1 => if b = true then t D σ H1 else u D σ H1
theorem ps_if {c : Expr} {a b : List Stmt} {tc : TT} (hc : PT X c tc) (ha : PSs X a t) (hb : PSs X b u) : PS X (.If c a b pos) (tIfS tc t u) := by
  intro pins s σ H D I h
  refine wpAny_If (thn (hc pins s σ H _ I h) fun d s1 ⟨H1, I1, q1⟩ => ?_)
  cases d with
  | true => exact ha pins s1 σ H1 D I1 q1
  | false => exact hb pins s1 σ H1 D I1 q1
def tNever : TS := fun _ _ _ => False
end
abbrev TG := V → St → Hp → (St → Hp → Prop) → Prop
abbrev TGs := List V → St → Hp → (St → Hp → Prop) → Prop
def PG (X : Cx) (target : Expr) (t : TG) : Prop :=
  ∀ (pins : List (Addr × Obj)) (s : Shared) (σ : St) (H : Hp) (v : V) (u : Value) (Q : St → Hp → Prop), Inv X pins σ H s → RelV v u → t v σ H Q →
    wpAny (model X.prog X.w) X.A (assign target X.env u) (fun _ s' => ∃ σ' H', Inv X pins σ' H' s' ∧ Q σ' H') X.xe s
def PGs (X : Cx) (ts : List Expr) (t : TGs) : Prop :=
  ∀ (pins : List (Addr × Obj)) (s : Shared) (σ : St) (H : Hp) (vs : List V) (us : List Value) (Q : St → Hp → Prop), Inv X pins σ H s → Vals vs us → t vs σ H Q →
    wpAny (model X.prog X.w) X.A (assignInOrder ((assignEach ts X.env).map (·.2)) us) (fun _ s' => ∃ σ' H', Inv X pins σ' H' s' ∧ Q σ' H') X.xe s
abbrev TSet := V → V → V → Hp → (Hp → Prop) → Prop
section
variable {X : Cx} {pos : Pos}
def gName (i : Nat) : TG := fun v σ H Q => Q (σ.set i (some v)) H
theorem pg_name {i : Nat} {x : Str} (hN : X.N.Nodup) (hi : X.N[i]? = some x) (hx : Loc X.env.scope x) (hf : X.fn x = true ∨ X.env.scope.names.lookup x = some .local := by first | exact .inl rfl | exact .inr rfl | assumption) : PG X (.Name x pos) (gName i) := by
  intro pins s σ H v u Q I r h
  exact wpAny_assign_Name (store_ok I hN hi hx r (fun s' I' => ⟨_, H, I', h⟩) hf)
def gNil : TGs := fun vs σ H Q => vs = [] ∧ Q σ H
def gCons (t : TG) (u : TGs) : TGs := fun vs σ H Q => ∃ v r, vs = v :: r ∧ t v σ H fun σ' H' => u r σ' H' Q
theorem pgs_nil : PGs X [] gNil := by
  intro pins s σ H vs us Q I r h
  obtain ⟨e, h⟩ := h
  subst e
  cases r
  exact assignInOrder_nil ⟨σ, H, I, h⟩
theorem pgs_cons {e : Expr} {es : List Expr} {t : TG} {u : TGs} (h1 : PG X e t) (h2 : PGs X es u)
    (hs : (assignEach (e :: es) X.env).map (·.2) = assign e X.env :: (assignEach es X.env).map (·.2) := by rfl) : PGs X (e :: es) (gCons t u) := by
  intro pins s σ H vs us Q I r h
  obtain ⟨v, vr, e1, h⟩ := h
  subst e1
  cases r with
  | cons r rr =>
    rw [hs]
    refine assignInOrder_cons (thn (h1 pins s σ H _ _ _ I r h) fun _ s1 ⟨σ1, H1, I1, q1⟩ => ?_)
    exact h2 pins s1 σ1 H1 _ _ Q I1 rr q1
def gTup (K : PySem.W.Frag) (n : Nat) (t : TGs) : TG := fun v σ H Q => ∃ a xs, v = .ref a ∧ SqT K H a xs ∧ xs.length = n ∧ t xs σ H Q
theorem pg_tup {es : List Expr} {k : Nat} {t : TGs} {n : Nat} (hc : Calm X) (h : PGs X es t)
    (hn : (assignEach es X.env).length = n := by rfl) (hst : (assignEach es X.env).findIdx? (·.1) = none := by rfl) : PG X (.Tuple es k pos) (gTup X.K n t) := by
  intro pins s σ H v u Q I r hw
  obtain ⟨a, xs, e1, hq, hl, hw⟩ := hw
  subst e1
  cases r
  obtain ⟨its, rv, ht, hz⟩ := I.tuple hq
  refine tup_unpacked (I.calm hc) ht (by simp [hn, ← hl, rv.length]) hst fun h' hx => ?_
  have I1 : Inv X pins σ H { s with heap := h' } := I.kept (t' := s.toks) fun b o e => hx b o (Nat.ne_of_lt (Heap.lt_size e)) e
  exact h pins _ σ H xs _ Q I1 (by simpa using rv) hw
def gSub (to ti : TE) (t : TSet) : TG := fun v σ H Q => to σ H fun o H1 => ti σ H1 fun i H2 => t o i v H2 fun H3 => Q σ H3
def tAsg (te : TE) (g : TG) : TS := fun D σ H => te σ H fun x H1 => g x σ H1 D.nx
theorem ps_set {i : Nat} {x : Str} {e : Expr} {te : TE} {pos' : Pos} (hN : X.N.Nodup) (hi : X.N[i]? = some x) (hx : Loc X.env.scope x) (he : PE X e te) (hs : swapsWith e (some (.Name x pos')) pos.line X.env = pure false := by rfl) (hf : X.fn x = true ∨ X.env.scope.names.lookup x = some .local := by first | exact .inl rfl | exact .inr rfl | assumption) :
    PS X (.Assign [.Name x pos'] e pos) (tAsg te (gName i)) := by
  intro pins s σ H D I h
  refine wpAny_Assign_Name (thn (he pins s σ H _ I h) fun v s1 ⟨y, H1, I1, r1, q1⟩ => ?_) hs
  exact store_ok I1 hN hi hx r1 (fun s2 I2 => ⟨_, H1, I2, q1⟩) hf
end
section
variable {X : Cx} {pos : Pos}
end
structure It where
  go : Nat → Hp → Prop
  yld : Nat → Hp → V → Hp → Prop
  stop : Nat → Hp → Prop
def FpOk (X : Cx) (pins : List (Addr × Obj)) (H : Hp) (b : Addr) : Prop :=
  H b = none ∧ b ≠ X.env.locals ∧ b ∉ X.fs ∧ (b ∈ X.ex ∨ X.s₀.heap.objs.size ≤ b) ∧ (∀ x c, X.env.cells.lookup x = some c → c ≠ b) ∧ ∀ p ∈ X.pn ++ pins, p.1 ≠ b
theorem Inv.fpOk {X : Cx} {pins : List (Addr × Obj)} {σ : St} {H H' : Hp} {s : Shared} {b : Addr} (I : Inv X pins σ H s) (hb : s.heap.objs.size ≤ b) (hn : H' b = none) : FpOk X pins H' b := by
  refine ⟨hn, Nat.ne_of_gt (Nat.lt_of_lt_of_le I.lt hb), I.nofs hb, .inr (Nat.le_trans I.sz hb), fun x c e z => ?_, fun p hp z => ?_⟩
  · obtain ⟨v, q⟩ := I.cell x c e
    exact absurd (Nat.lt_of_lt_of_le q.lt (by rw [z]; exact hb)) (Nat.lt_irrefl _)
  · exact absurd (Nat.lt_of_lt_of_le (Heap.lt_size (I.pin p hp).1) (by rw [z]; exact hb)) (Nat.lt_irrefl _)
structure Turn (P : Program) (w : World) (K : PySem.W.Frag) (tg : Expr) (J : It) (fp : List Addr) (it : Addr) (tn : Nat → Heap → Prop) : Prop where
  mem : it ∈ fp
  obj : ∀ i h, tn i h → ∀ b ∈ fp, ∃ o, h.get? b = some o ∧ ∀ v, o.data ≠ .cell v
  keep : ∀ i h h', tn i h → (∀ b ∈ fp, ∀ o, h.get? b = some o → h'.get? b = some o) → tn i h'
  item : ∀ (X : Cx), X.prog = P → X.w = w → X.K = K → Calm X → ∀ (i : Nat) (pins : List (Addr × Obj)) (s : Shared) (σ : St) (H : Hp) (E : Value → Shared → Prop), Inv X pins σ H s → (∀ b ∈ fp, FpOk X pins H b) → tn i s.heap → J.go i H →
    wpAny (model P w) X.A (pyNext (.ref it)) (fun r s1 => ∃ u, r = some u ∧
      wpAny (model P w) X.A (letOwnedTupleGo tg (.ref it) u) (fun _ s2 => ∃ x H', Inv X pins σ H' s2 ∧ RelV x u ∧ J.yld i H x H' ∧ tn (i + 1) s2.heap ∧ ∀ b ∈ fp, H' b = none) E s1) E s
  done : ∀ (X : Cx), X.prog = P → X.w = w → X.K = K → Calm X → ∀ (i : Nat) (pins : List (Addr × Obj)) (s : Shared) (σ : St) (H : Hp) (E : Value → Shared → Prop), Inv X pins σ H s → (∀ b ∈ fp, FpOk X pins H b) → tn i s.heap → J.stop i H →
    wpAny (model P w) X.A (pyNext (.ref it)) (fun r s1 => r = none ∧ Inv X pins σ H s1) E s
  self : ∀ (A : Around) (i : Nat) (s : Shared) (Q : Value → Shared → Prop) (E : Value → Shared → Prop), tn i s.heap → Q (.ref it) s → wpAny (model P w) A (pyIter (.ref it)) Q E s
abbrev TI := St → Hp → (It → Hp → Prop) → Prop
def PIE (X : Cx) (pins : List (Addr × Obj)) (σ : St) (tg : Expr) (R : It → Hp → Prop) (itv : Value) (s2 : Shared) : Prop :=
  ∃ (it : Addr) (fp : List Addr) (tn : Nat → Heap → Prop) (J : It) (H' : Hp), itv = .ref it ∧ Inv X pins σ H' s2 ∧ Turn X.prog X.w X.K tg J fp it tn ∧ tn 0 s2.heap ∧ (∀ b ∈ fp, FpOk X pins H' b) ∧ R J H'
def PI (X : Cx) (tg iter : Expr) (wi : TI) : Prop :=
  ∀ (pins : List (Addr × Obj)) (s : Shared) (σ : St) (H : Hp) (R : It → Hp → Prop), Inv X pins σ H s → wi σ H R →
    wpAny (model X.prog X.w) X.A (eval iter X.env) (fun v s1 => wpAny (model X.prog X.w) X.A (pyIter v) (PIE X pins σ tg R) X.xe s1) X.xe s
theorem go_of {M : Model} {A : Around} {E : Value → Shared → Prop} {s : Shared} {tg : Expr} {it : Addr} {u : Value} {o : Obj} {n : String} {vs : Array Value} {Q : Unit → Shared → Prop} (ho : s.heap.get? it = some o) (hc : o.cls = .type n) (hd : o.data = .fields vs)
    (hn : ["enumerate", "zip", "dict_itemiterator", "dict_reverseitemiterator", "odict_iterator", "itertools.zip_longest", "itertools.pairwise"].contains n = false) (hQ : Q () s) : wpAny M A (letOwnedTupleGo tg (.ref it) u) Q E s := by
  unfold letOwnedTupleGo
  cases tg <;> first
    | exact wpAny_pure hQ
    | (cases u <;> first
        | exact wpAny_pure hQ
        | (refine wpAny_bind (wpAny_load ho ?_)
           rw [hc, hd]
           show wpAny M A (if (["enumerate", "zip", "dict_itemiterator", "dict_reverseitemiterator", "odict_iterator", "itertools.zip_longest", "itertools.pairwise"].contains n && vs[0]? == some (rawInt _)) = true then _ else _) Q E s
           rw [if_neg (by intro h; rw [hn, Bool.false_and] at h; cases h)]
           exact wpAny_pure hQ))
def Itl (K : PySem.W.Frag) (a : Addr) : It :=
  ⟨fun i H => ∃ xs x, SqL K H a xs ∧ xs[i]? = some x, fun i H x H' => H' = H ∧ ∀ xs, SqL K H a xs → xs[i]? = some x, fun i H => ∃ xs, SqL K H a xs ∧ xs.length ≤ i⟩
def Itt (K : PySem.W.Frag) (a : Addr) : It :=
  ⟨fun i H => ∃ xs x, SqT K H a xs ∧ xs[i]? = some x, fun i H x H' => H' = H ∧ ∀ xs, SqT K H a xs → xs[i]? = some x, fun i H => ∃ xs, SqT K H a xs ∧ xs.length ≤ i⟩
def Itr (lo : Int) (n : Nat) : It := ⟨fun i _ => i < n, fun i H x H' => H' = H ∧ x = .int (lo + i), fun i _ => n ≤ i⟩
theorem turn_list {P : Program} {w : World} {K : PySem.W.Frag} {tg : Expr} (a it : Addr) : Turn P w K tg (Itl K a) [it] it (fun i h => h.IsListIter it a i) where
  mem := by simp
  obj := fun i h st b hb => by
    have e : b = it := by simpa using hb
    subst e
    obtain ⟨o, e, c, d⟩ := st
    exact ⟨o, e, fun v z => by rw [d] at z; cases z⟩
  keep := fun i h h' st k => st.at fun o e => k it (by simp) o e
  item := by
    intro X hP hw hK hc i pins s σ H E I hf st hg
    subst hP hw hK
    obtain ⟨xs, x, hq, hx⟩ := hg
    obtain ⟨its, rv, p, hz⟩ := I.list hq
    obtain ⟨u, hu, ru⟩ := rv.get hx
    obtain ⟨f0, f1, f2, f3, f4, f5⟩ := hf it (by simp)
    refine wpAny_pyNext_list_item st p.isList (x := u) (by simpa using hu) fun h' st' sb => ?_
    have I1 : Inv X pins σ H { s with heap := h' } := I.turned (t' := s.toks) (fun b o hb e => (sb.2 b hb).trans e) f0 f1 f3 f4 f5
    obtain ⟨o, e, c, d⟩ := id st'
    exact ⟨u, rfl, go_of (s := { s with heap := h' }) e c d (by decide) ⟨x, H, I1, ru, ⟨rfl, fun ys hy => by rw [I.list_inj hy hq]; exact hx⟩, st', fun b hb => (hf b hb).1⟩⟩
  done := by
    intro X hP hw hK hc i pins s σ H E I hf st hg
    subst hP hw hK
    obtain ⟨xs, hq, hx⟩ := hg
    obtain ⟨its, rv, p, hz⟩ := I.list hq
    obtain ⟨f0, f1, f2, f3, f4, f5⟩ := hf it (by simp)
    have hl := rv.length
    exact list_end (I.calm hc) st p.isList (by simp; omega) fun h' eb => ⟨rfl, I.turned (t' := s.toks) (fun b o hb e => eb b o hb e) f0 f1 f3 f4 f5⟩
  self := fun _ _ _ _ _ st h => wpAny_pyIter_listiter st h
theorem turn_range {P : Program} {w : World} {K : PySem.W.Frag} {tg : Expr} (it : Addr) (lo : Int) (n : Nat) : Turn P w K tg (Itr lo n) [it] it (fun i h => IsRangeIter h it (lo + (i : Nat) * 1) ((n : Int) - (i : Nat)) 1) where
  mem := by simp
  obj := fun i h st b hb => by
    have e : b = it := by simpa using hb
    subst e
    exact ⟨_, st, fun v z => by
      have z' : Data.fields _ = Data.cell v := z
      cases z'⟩
  keep := fun i h h' st k => k it (by simp) _ st
  item := by
    intro X hP hw hK hc i pins s σ H E I hf st hg
    subst hP hw hK
    obtain ⟨f0, f1, f2, f3, f4, f5⟩ := hf it (by simp)
    refine wpAny_pyNext_range_item st (by have : i < n := hg; omega) fun h' st2 sb => ?_
    have st' : IsRangeIter h' it (lo + ((i + 1 : Nat) : Int) * 1) ((n : Int) - ((i + 1 : Nat) : Int)) 1 := by
      rw [show lo + ((i + 1 : Nat) : Int) * 1 = lo + (i : Nat) * 1 + 1 by omega, show (n : Int) - ((i + 1 : Nat) : Int) = n - (i : Nat) - 1 by omega]
      exact st2
    have I1 : Inv X pins σ H { s with heap := h', toks := s.toks + 1 } := I.turned (fun b o hb e => (sb.2 b hb).trans e) f0 f1 f3 f4 f5
    refine ⟨_, rfl, go_of (s := { s with heap := h', toks := s.toks + 1 }) (n := "range_iterator") st' rfl rfl (by decide) ⟨.int (lo + i), H, I1, ⟨s.toks, ?_⟩, ⟨rfl, rfl⟩, st', fun b hb => (hf b hb).1⟩⟩
    rw [Int.mul_one]
  done := by
    intro X hP hw hK hc i pins s σ H E I hf st hg
    subst hP hw hK
    obtain ⟨f0, f1, f2, f3, f4, f5⟩ := hf it (by simp)
    exact range_end (I.calm hc) st (by have : n ≤ i := hg; omega) fun h' eb => ⟨rfl, I.turned (t' := s.toks) (fun b o hb e => eb b o hb e) f0 f1 f3 f4 f5⟩
  self := fun _ _ _ _ _ st h => wpAny_pyIter_rangeiter st h
end L2
namespace L2
open PySem PySem.Spec PyProof.Rows
section
variable {X : Cx} {tg : Expr}
def iList (K : PySem.W.Frag) (tl : TE) : TI := fun σ H R => tl σ H fun x H1 => ∃ a, x = .ref a ∧ (∃ xs, SqL K H1 a xs) ∧ R (Itl K a) H1
def iTup (K : PySem.W.Frag) (tl : TE) : TI := fun σ H R => tl σ H fun x H1 => ∃ a, x = .ref a ∧ (∃ xs, SqT K H1 a xs) ∧ R (Itt K a) H1
theorem pi_list {l : Expr} {tl : TE} (hl : PE X l tl) : PI X tg l (iList X.K tl) := by
  intro pins s σ H R I h
  refine thn (hl pins s σ H _ I h) fun v s1 ⟨x, H1, I1, r1, q1⟩ => ?_
  obtain ⟨a, e, ⟨xs, hq⟩, q⟩ := q1
  subst e
  cases r1
  obtain ⟨its, rv, p, hz⟩ := I1.list hq
  refine wpAny_pyIter_list p.isList ?_
  refine ⟨s1.heap.objs.size, [s1.heap.objs.size], _, _, H1, rfl, I1.kept (t' := s1.toks) fun b o e => Heap.get?_push_of_some _ e, turn_list a _, ⟨_, Heap.get?_push_size _ rfl, rfl, rfl⟩, fun b hb => ?_, q⟩
  have e : b = s1.heap.objs.size := by simpa using hb
  subst e
  exact I1.fpOk (Nat.le_refl _) (I1.hok.fresh (Nat.le_refl _))
theorem range_it {pins : List (Addr × Obj)} {σ : St} {H : Hp} {s : Shared} {R : It → Hp → Prop} {E : Value → Shared → Prop} {lo hi : Int} {t u v : Tok} {tk : Nat} (I : Inv X pins σ H s) (h1 : -(2 ^ 62) ≤ lo) (h2 : lo < 2 ^ 62) (h3 : -(2 ^ 62) ≤ hi) (h4 : hi < 2 ^ 62)
    (q : R (Itr lo (hi - lo).toNat) H) : wpAny (model X.prog X.w) X.A (pyIter (.ref s.heap.objs.size)) (PIE X pins σ tg R) E { s with heap := s.heap.push { cls := .type "range", data := .fields #[.int lo t, .int hi u, .int 1 v] }, toks := tk } := by
  refine wpAny_pyIter_range (IsRange.new ..) (small_one h1 h2 h3 h4) ?_
  have I1 : Inv X pins σ H { s with heap := s.heap.push { cls := .type "range", data := .fields #[.int lo t, .int hi u, .int 1 v] }, toks := tk } := I.kept fun b o e => Heap.get?_push_of_some _ e
  refine ⟨(s.heap.push { cls := .type "range", data := .fields #[.int lo t, .int hi u, .int 1 v] }).objs.size, [(s.heap.push { cls := .type "range", data := .fields #[.int lo t, .int hi u, .int 1 v] }).objs.size], _, _, H, rfl,
    I1.kept (t' := tk) fun b o e => Heap.get?_push_of_some _ e, turn_range _ lo (hi - lo).toNat, ?_, fun b hb => ?_, q⟩
  · have e1 : lo + ((0 : Nat) : Int) * 1 = lo := by simp
    have e2 : (((hi - lo).toNat : Nat) : Int) - ((0 : Nat) : Int) = Builtin.Range.rangeSize lo hi 1 := by rw [rangeSize_one]; split <;> omega
    show IsRangeIter _ _ (lo + ((0 : Nat) : Int) * 1) ((((hi - lo).toNat : Nat) : Int) - ((0 : Nat) : Int)) 1
    rw [e1, e2]
    exact Heap.get?_push_size _ rfl
  · have e : b = (s.heap.push { cls := .type "range", data := .fields #[.int lo t, .int hi u, .int 1 v] }).objs.size := by simpa using hb
    subst e
    exact I1.fpOk (Nat.le_refl _) (I1.hok.fresh (Nat.le_refl _))
def iRng1 (ta : TA) : TI := fun σ H R => ta σ H fun vs H1 => ∃ j : Int, vs = [.int j] ∧ -(2 ^ 62) ≤ j ∧ j < 2 ^ 62 ∧ R (Itr 0 j.toNat) H1
def iRng2 (ta : TA) : TI := fun σ H R => ta σ H fun vs H1 => ∃ i j : Int, vs = [.int i, .int j] ∧ (-(2 ^ 62) ≤ i ∧ i < 2 ^ 62 ∧ -(2 ^ 62) ≤ j ∧ j < 2 ^ 62) ∧ R (Itr i (j - i).toNat) H1
theorem pi_range1 {a : Expr} {ta : TA} {p pos : Pos} (hg : Gl X "range") (hm : X.mg "range" = none) (ha : PA X [a] ta) (hs : starEach [a] X.env = [(false, eval a X.env)] := by rfl) : PI X tg (.Call (.Name "range" p) [a] [] pos) (iRng1 ta) := by
  intro pins s σ H R I h
  refine Call_ (ld_blt I hg hm boot_range (PyProof.Rows.callWith_type1 (thn (ha pos pins s σ H _ I h) fun us s1 ⟨vs, H1, I1, r1, q1⟩ => ?_) hs rfl))
  obtain ⟨j, e, q1, q2, q⟩ := q1
  subst e
  cases r1 with
  | cons r rr =>
    cases rr
    obtain ⟨t, rfl⟩ := r
    exact call_range_1 (range_it I1 (by omega) (by omega) q1 q2 (by simpa using q))
def tFor (wi : TI) (g : TG) (tb : TS) : TS := fun D σ H => wi σ H fun J H1 => ∃ W : Nat → Nat → St → Hp → Prop, (∃ m, W 0 m σ H1) ∧ ∀ i m σ H, W i m σ H →
  (J.stop i H ∧ D.nx σ H) ∨ (J.go i H ∧ ∃ N : St → Hp → Prop, (∀ σ' H', N σ' H' → ∃ m', m' < m ∧ W (i + 1) m' σ' H') ∧ ∀ x H', J.yld i H x H' → g x σ H' fun σ2 H2 => tb { D with nx := N, ct := N, bk := D.nx } σ2 H2)
def pinsAt (fp : List Addr) (h : Heap) : List (Addr × Obj) := fp.filterMap fun b => (h.get? b).map fun o => (b, o)
theorem mem_pinsAt {fp : List Addr} {h : Heap} {b : Addr} {o : Obj} (hb : b ∈ fp) (e : h.get? b = some o) : (b, o) ∈ pinsAt fp h := List.mem_filterMap.mpr ⟨b, hb, by rw [e]; rfl⟩
theorem of_pinsAt {fp : List Addr} {h : Heap} {p : Addr × Obj} (hp : p ∈ pinsAt fp h) : p.1 ∈ fp ∧ h.get? p.1 = some p.2 := by
  obtain ⟨b, hb, e⟩ := List.mem_filterMap.mp hp
  cases q : h.get? b with
  | none => rw [q] at e; cases e
  | some o =>
    rw [q] at e
    have e' : (b, o) = p := Option.some.inj e
    subst e'
    exact ⟨hb, q⟩
theorem Inv.pinned {pins : List (Addr × Obj)} {σ : St} {H : Hp} {s : Shared} {fp : List Addr} (I : Inv X pins σ H s) (hf : ∀ b ∈ fp, FpOk X pins H b) (ho : ∀ b ∈ fp, ∃ o, s.heap.get? b = some o ∧ ∀ v, o.data ≠ .cell v) : Inv X (pins ++ pinsAt fp s.heap) σ H s :=
  I.pins_of fun p hp => (List.mem_append.mp hp).elim (fun z => I.pin p (List.mem_append_right _ z)) fun z => by
    obtain ⟨hb, e⟩ := of_pinsAt z
    obtain ⟨f0, f1, f2, _⟩ := hf p.1 hb
    obtain ⟨o, e', d⟩ := ho p.1 hb
    rw [e] at e'; cases e'
    exact ⟨e, f0, f1, f2, d⟩
theorem Inv.unpinned {pins pl : List (Addr × Obj)} {σ : St} {H : Hp} {s : Shared} (I : Inv X (pins ++ pl) σ H s) : Inv X pins σ H s := I.pins_of fun p hp => I.pin p (List.mem_append_right _ (List.mem_append_left _ hp))
theorem ps_for {iter : Expr} {body : List Stmt} {wi : TI} {g : TG} {tb : TS} {pos : Pos} (hp : PassesOwn (model X.prog X.w) X.A X.env X.xe) (hc : Calm X) (hi : PI X tg iter wi) (hg : PG X tg g) (hb : PSs X body tb)
    (hs : ∀ x, foldedSetIterable iter X.env x = pure x := by intro _; rfl) : PS X (.For tg iter body [] pos) (tFor wi g tb) := by
  intro pins s σ H D I h
  refine wpAny_For (thn (hi pins s σ H _ I h) fun v s1 h1 => thn h1 fun itv s2 h2 => ?_) hs
  obtain ⟨it, fp, tn, J, H2, e, I2, T, st2, f2, W, ⟨m0, w0⟩, turn⟩ := h2
  subst e
  have stat : ∀ {H' : Hp}, (∀ b ∈ fp, H' b = none) → ∀ b ∈ fp, FpOk X pins H' b := fun hn b hb => ⟨hn b hb, (f2 b hb).2⟩
  refine codeAny_forLoop_any (fun n s' => ∃ i σ' H', Inv X pins σ' H' s' ∧ tn i s'.heap ∧ (∀ b ∈ fp, H' b = none) ∧ W i n σ' H') ?_ m0 ⟨0, σ, H2, I2, st2, fun b hb => (f2 b hb).1, w0⟩
  rintro n s3 ⟨i, σ3, H3, I3, st3, fr3, w3⟩
  rcases turn i n σ3 H3 w3 with ⟨stop, qn⟩ | ⟨go, N, hN, step⟩
  · refine wpAny_passesOwn hp (thn (T.done X rfl rfl rfl hc i pins s3 σ3 H3 X.xe I3 (stat fr3) st3 stop) fun r s4 ⟨hr, I4⟩ => ?_)
    subst hr
    exact wpAny_execs_nil ⟨σ3, H3, I4, qn⟩
  · refine wpAny_passesOwn hp (thn (T.item X rfl rfl rfl hc i pins s3 σ3 H3 X.xe I3 (stat fr3) st3 go) fun r s4 ⟨u, hr, h4⟩ => ?_)
    subst hr
    refine wpAny_passesOwn hp (thn h4 fun _ s5 ⟨x, H5, I5, r5, y5, st5, fr5⟩ => ?_)
    have I5' := I5.pinned (stat fr5) (T.obj _ _ st5)
    refine wpAny_passesOwn hp (thn (hg _ s5 σ3 H5 x u _ I5' r5 (step x H5 y5)) fun _ s6 ⟨σ6, H6, I6, q6⟩ => ?_)
    refine wpAny_passesOwn hp (thn (hb _ s6 σ6 H6 _ I6 q6) fun f s7 q7 => ?_)
    have again : ∀ {σ7 : St} {H7 : Hp}, Inv X (pins ++ pinsAt fp s5.heap) σ7 H7 s7 → N σ7 H7 → ∃ m, m < n ∧ ∃ i σ' H', Inv X pins σ' H' s7 ∧ tn i s7.heap ∧ (∀ b ∈ fp, H' b = none) ∧ W i m σ' H' := fun {σ7 H7} I7 n7 => by
      obtain ⟨m', hm, w7⟩ := hN σ7 H7 n7
      refine ⟨m', hm, i + 1, σ7, H7, I7.unpinned, T.keep _ _ _ st5 fun b hb o e => (I7.pin (b, o) (List.mem_append_right _ (List.mem_append_right _ (mem_pinsAt hb e)))).1, fun b hb => ?_, w7⟩
      obtain ⟨o, e, d⟩ := T.obj _ _ st5 b hb
      exact (I7.pin (b, o) (List.mem_append_right _ (List.mem_append_right _ (mem_pinsAt hb e)))).2.1
    cases f with
    | next => obtain ⟨σ7, H7, I7, n7⟩ := q7; exact again I7 n7
    | cont => obtain ⟨σ7, H7, I7, n7⟩ := q7; exact again I7 n7
    | brk => obtain ⟨σ7, H7, I7, q7⟩ := q7; exact ⟨σ7, H7, I7.unpinned, q7⟩
    | ret v => obtain ⟨x7, σ7, H7, I7, r7, q7⟩ := q7; exact ⟨x7, σ7, H7, I7.unpinned, r7, q7⟩
end
theorem for_list {K : PySem.W.Frag} {a : Addr} {xs : List V} {g : TG} {tb : TS} {D : Ends} {σ : St} {H : Hp} (Pv : Nat → St → Hp → Prop) (h0 : Pv 0 σ H) (hl : ∀ i σ H, i ≤ xs.length → Pv i σ H → SqL K H a xs)
    (hs : ∀ i x σ H, xs[i]? = some x → Pv i σ H → g x σ H fun σ2 H2 => tb { D with nx := Pv (i + 1), ct := Pv (i + 1), bk := D.nx } σ2 H2) (hd : ∀ σ H, Pv xs.length σ H → D.nx σ H) :
    ∃ W : Nat → Nat → St → Hp → Prop, (∃ m, W 0 m σ H) ∧ ∀ i m σ H, W i m σ H →
      ((Itl K a).stop i H ∧ D.nx σ H) ∨ ((Itl K a).go i H ∧ ∃ N : St → Hp → Prop, (∀ σ' H', N σ' H' → ∃ m', m' < m ∧ W (i + 1) m' σ' H') ∧ ∀ x H', (Itl K a).yld i H x H' → g x σ H' fun σ2 H2 => tb { D with nx := N, ct := N, bk := D.nx } σ2 H2) := by
  refine ⟨fun i m σ H => m = xs.length - i ∧ i ≤ xs.length ∧ Pv i σ H, ⟨xs.length, by simp, Nat.zero_le _, h0⟩, ?_⟩
  rintro i m σ H ⟨rfl, hi, p⟩
  have q := hl i σ H hi p
  by_cases hlt : i < xs.length
  · refine .inr ⟨⟨xs, xs[i], q, by simp [hlt]⟩, Pv (i + 1), fun σ' H' p' => ⟨xs.length - (i + 1), by omega, rfl, hlt, p'⟩, fun x H' y => ?_⟩
    obtain ⟨e, y⟩ := y
    subst e
    exact hs i x σ _ (y xs q) p
  · have e : i = xs.length := by omega
    subst e
    exact .inl ⟨⟨xs, q, Nat.le_refl _⟩, hd σ H p⟩
theorem for_range {lo : Int} {n : Nat} {g : TG} {tb : TS} {D : Ends} {σ : St} {H : Hp} (Pv : Nat → St → Hp → Prop) (h0 : Pv 0 σ H)
    (hs : ∀ i σ H, i < n → Pv i σ H → g (.int (lo + i)) σ H fun σ2 H2 => tb { D with nx := Pv (i + 1), ct := Pv (i + 1), bk := D.nx } σ2 H2) (hd : ∀ σ H, Pv n σ H → D.nx σ H) :
    ∃ W : Nat → Nat → St → Hp → Prop, (∃ m, W 0 m σ H) ∧ ∀ i m σ H, W i m σ H →
      ((Itr lo n).stop i H ∧ D.nx σ H) ∨ ((Itr lo n).go i H ∧ ∃ N : St → Hp → Prop, (∀ σ' H', N σ' H' → ∃ m', m' < m ∧ W (i + 1) m' σ' H') ∧ ∀ x H', (Itr lo n).yld i H x H' → g x σ H' fun σ2 H2 => tb { D with nx := N, ct := N, bk := D.nx } σ2 H2) := by
  refine ⟨fun i m σ H => m = n - i ∧ i ≤ n ∧ Pv i σ H, ⟨n, by simp, Nat.zero_le _, h0⟩, ?_⟩
  rintro i m σ H ⟨rfl, hi, p⟩
  by_cases hlt : i < n
  · refine .inr ⟨hlt, Pv (i + 1), fun σ' H' p' => ⟨n - (i + 1), by omega, rfl, hlt, p'⟩, fun x H' y => ?_⟩
    obtain ⟨e, y⟩ := y
    subst e y
    exact hs i σ _ hlt p
  · have e : i = n := by omega
    subst e
    exact .inl ⟨Nat.le_refl _, hd σ H p⟩
end L2
namespace L2
open PySem PySem.Spec PyProof.Rows
abbrev R2 := V → V → Hp → VK → Prop
def OpR (X : Cx) (f : Value → Value → Sem Value) (r : R2) : Prop :=
  ∀ (pins : List (Addr × Obj)) (s : Shared) (σ : St) (H : Hp) (x y : V) (v u : Value) (Q : VK), Inv X pins σ H s → RelV x v → RelV y u → r x y H Q →
    wpAny (model X.prog X.w) X.A (f v u) (EP X pins σ Q) X.xe s
def CallR (X : Cx) (f : Value) (r : List V → Hp → VK → Prop) : Prop :=
  ∀ (pins : List (Addr × Obj)) (s : Shared) (σ : St) (H : Hp) (xs : List V) (us : List Value) (Q : VK), Inv X pins σ H s → Vals xs us → r xs H Q →
    wpAny (model X.prog X.w) X.A (call f us) (EP X pins σ Q) X.xe s
def tOp (r : R2) (ta tb : TE) : TE := fun σ H Q => ta σ H fun x H1 => tb σ H1 fun y H2 => r x y H2 Q
def tUn (r : V → Hp → VK → Prop) (ta : TE) : TE := fun σ H Q => ta σ H fun x H1 => r x H1 Q
def rI (C : Int → Int → Prop) (g : Int → Int → V) : R2 := fun x y H Q => ∃ i j, x = .int i ∧ y = .int j ∧ C i j ∧ Q (g i j) H
def rI0 (g : Int → Int → V) : R2 := fun x y H Q => ∃ i j, x = .int i ∧ y = .int j ∧ Q (g i j) H
def rU (g : Int → V) : V → Hp → VK → Prop := fun x H Q => ∃ i, x = .int i ∧ Q (g i) H
section
variable {X : Cx} {a b c : Expr} {ta tb tc : TE} {pos : Pos}
theorem binT (ha : PE X a ta) (hb : PE X b tb) {pins : List (Addr × Obj)} {s : Shared} {σ : St} {H : Hp} {R : V → V → Hp → Prop} (I : Inv X pins σ H s)
    (h : ta σ H fun x H1 => tb σ H1 fun y H2 => R x y H2) {Q : Value → Shared → Prop} {f : Value → Value → Sem Value}
    (hf : ∀ v u s2 x y H2, Inv X pins σ H2 s2 → RelV x v → RelV y u → R x y H2 → wpAny (model X.prog X.w) X.A (f v u) Q X.xe s2) :
    wpAny (model X.prog X.w) X.A (eval a X.env) (fun v s₁ => wpAny (model X.prog X.w) X.A (eval b X.env) (fun u s₂ => wpAny (model X.prog X.w) X.A (f v u) Q X.xe s₂) X.xe s₁) X.xe s := by
  refine thn (ha pins s σ H _ I h) fun v s1 ⟨x, H1, I1, r1, q1⟩ => ?_
  refine thn (hb pins s1 σ H1 _ I1 q1) fun u s2 ⟨y, H2, I2, r2, q2⟩ => ?_
  exact hf v u s2 x y H2 I2 r1 r2 q2
theorem pe_op {op : Operator} {r : R2} (ho : OpR X (binaryOp op) r) (ha : PE X a ta) (hb : PE X b tb) : PE X (.BinOp a op b pos) (tOp r ta tb) := by
  intro pins s σ H Q I h
  exact wpAny_BinOp (binT ha hb I h fun v u s2 x y H2 I2 rx ry q => ho pins s2 σ H2 x y v u Q I2 rx ry q)
theorem opI {f : Value → Value → Sem Value} {C : Int → Int → Prop} {g : Int → Int → Int}
    (rule : ∀ (i j : Int) (t u : Tok) (s : Shared) (Q : Value → Shared → Prop) (E : Value → Shared → Prop), C i j → Q (.int (g i j) s.toks) { s with toks := s.toks + 1 } → wpAny (model X.prog X.w) X.A (f (.int i t) (.int j u)) Q E s) :
    OpR X f (rI C fun i j => .int (g i j)) := by
  intro pins s σ H x y v u Q I rx ry h
  obtain ⟨i, j, rfl, rfl, hc, q⟩ := h
  obtain ⟨t, rfl⟩ := rx
  obtain ⟨t', rfl⟩ := ry
  exact rule i j t t' s _ _ hc ⟨.int (g i j), H, I.tok _, ⟨_, rfl⟩, q⟩
theorem opI0 {f : Value → Value → Sem Value} {g : Int → Int → Int}
    (rule : ∀ (i j : Int) (t u : Tok) (s : Shared) (Q : Value → Shared → Prop) (E : Value → Shared → Prop), Q (.int (g i j) s.toks) { s with toks := s.toks + 1 } → wpAny (model X.prog X.w) X.A (f (.int i t) (.int j u)) Q E s) :
    OpR X f (rI0 fun i j => .int (g i j)) := by
  intro pins s σ H x y v u Q I rx ry h
  obtain ⟨i, j, rfl, rfl, q⟩ := h
  obtain ⟨t, rfl⟩ := rx
  obtain ⟨t', rfl⟩ := ry
  exact rule i j t t' s _ _ ⟨.int (g i j), H, I.tok _, ⟨_, rfl⟩, q⟩
theorem opB0 {f : Value → Value → Sem Value} {g : Int → Int → Bool}
    (rule : ∀ (i j : Int) (t u : Tok) (s : Shared) (Q : Value → Shared → Prop) (E : Value → Shared → Prop), Q (.bool (g i j)) s → wpAny (model X.prog X.w) X.A (f (.int i t) (.int j u)) Q E s) :
    OpR X f (rI0 fun i j => .bl (g i j)) := by
  intro pins s σ H x y v u Q I rx ry h
  obtain ⟨i, j, rfl, rfl, q⟩ := h
  obtain ⟨t, rfl⟩ := rx
  obtain ⟨t', rfl⟩ := ry
  exact rule i j t t' s _ _ ⟨.bl (g i j), H, I, rfl, q⟩
def CDiv (i j : Int) : Prop := 0 < j ∧ j < 1073741824
def CMul (i j : Int) : Prop := (-(2 ^ 64) < i ∧ i < 2 ^ 64) ∨ (-(2 ^ 64) < j ∧ j < 2 ^ 64)
theorem CMul.ok {i j : Int} (h : CMul i j) : IntMulOk i j := by
  rcases h with ⟨h1, h2⟩ | ⟨h1, h2⟩
  · exact .of_left (intBits_le_64 h1 h2)
  · exact .of_right (intBits_le_64 h1 h2)
theorem op_add : OpR X (binaryOp .Add) (rI0 fun i j => .int (i + j)) := opI0 fun _ _ _ _ _ _ _ q => add_int q
theorem op_mul : OpR X (binaryOp .Mult) (rI CMul fun i j => .int (i * j)) := opI fun _ _ _ _ _ _ _ hc q => mul_int q hc.ok
theorem op_fdiv : OpR X (binaryOp .FloorDiv) (rI CDiv fun i j => .int (i / j)) := opI fun i j _ _ _ _ _ hc q => by
  have h1 : (0 : Int) < j := hc.1
  have h2 : j < 1073741824 := hc.2
  exact floordiv_int (by omega) (by rw [Int.fdiv_eq_ediv_of_nonneg i (by omega)]; exact q) (.inl (PyProof.noPylong_small (by omega)))
theorem op_mod : OpR X (binaryOp .Mod) (rI (fun _ j => 0 < j) fun i j => .int (i % j)) := opI fun i j _ _ _ _ _ hc q => by
  have h1 : (0 : Int) < j := hc
  exact mod_int' (by omega) (by rw [Int.fmod_eq_emod_of_nonneg i (by omega)]; exact q)
end
def scal : V → V → Bool
  | .non, .non => true | .non, .int _ => true | .int _, .non => true | .non, .bl _ => true | .bl _, .non => true | .non, .str _ => true | .str _, .non => true
  | .int _, .int _ => true | .bl _, .bl _ => true | .str _, .str _ => true | .byt _, .byt _ => true
  | .int _, .str _ => true | .str _, .int _ => true | .bl _, .str _ => true | .str _, .bl _ => true
  | _, _ => false
def rEq : R2 := fun x y H Q => scal x y = true ∧ Q (.bl (decide (x = y))) H
def rNe : R2 := fun x y H Q => scal x y = true ∧ Q (.bl (!decide (x = y))) H
theorem dec_int {i j : Int} : decide (V.int i = V.int j) = (i == j) := by
  rw [Bool.eq_iff_iff]
  simp
theorem dec_bl {i j : Bool} : decide (V.bl i = V.bl j) = (i == j) := by
  rw [Bool.eq_iff_iff]
  simp
theorem dec_str {i j : Str} : decide (V.str i = V.str j) = (i == j) := by
  rw [Bool.eq_iff_iff]
  simp
theorem dec_byt {i j : Array UInt8} : decide (V.byt i = V.byt j) = (i.toList == j.toList) := by
  rw [Bool.eq_iff_iff]
  cases i
  cases j
  simp
section
variable {X : Cx} {a b c : Expr} {ta tb tc : TE} {pos : Pos}
theorem fin_bl {pins : List (Addr × Obj)} {σ : St} {H : Hp} {s : Shared} {Q : VK} {k k' : Bool} (I : Inv X pins σ H s) (q : Q (.bl k) H) (e : k = k') : EP X pins σ Q (.bool k') s := by
  subst e
  exact ⟨.bl k, H, I, rfl, q⟩
theorem op_eq : OpR X (compareOp .Eq) rEq := by
  intro pins s σ H x y v u Q I rx ry h
  obtain ⟨hs, q⟩ := h
  cases x with
  | non =>
    cases rx
    cases y with
    | non => cases ry; exact PySem.EqNone.eq_none_none (fin_bl I q (by simp))
    | bl j => cases ry; exact PySem.EqNone.eq_none_bool (fin_bl I q (by simp))
    | int j => obtain ⟨t', rfl⟩ := ry; exact PySem.EqNone.eq_none_int (fin_bl I q (by simp))
    | str j => obtain ⟨t', rfl⟩ := ry; exact PySem.EqNone.eq_none_str (fin_bl I q (by simp))
    | _ => exact absurd (show false = true from hs) Bool.false_ne_true
  | bl i =>
    cases rx
    cases y with
    | non => cases ry; exact PySem.EqNone.eq_bool_none (fin_bl I q (by simp))
    | bl j => cases ry; exact eq_bool (fin_bl I q dec_bl)
    | str j => obtain ⟨t', rfl⟩ := ry; exact PySem.EqMixed.eq_bool_str (fin_bl I q (by simp))
    | _ => exact absurd (show false = true from hs) Bool.false_ne_true
  | int i =>
    obtain ⟨t, rfl⟩ := rx
    cases y with
    | non => cases ry; exact PySem.EqNone.eq_int_none (fin_bl I q (by simp))
    | int j => obtain ⟨t', rfl⟩ := ry; exact eq_int (fin_bl I q dec_int)
    | str j => obtain ⟨t', rfl⟩ := ry; exact PySem.EqMixed.eq_int_str (fin_bl I q (by simp))
    | _ => exact absurd (show false = true from hs) Bool.false_ne_true
  | str i =>
    obtain ⟨t, rfl⟩ := rx
    cases y with
    | non => cases ry; exact PySem.EqNone.eq_str_none (fin_bl I q (by simp))
    | bl j => cases ry; exact PySem.EqMixed.eq_str_bool (fin_bl I q (by simp))
    | int j => obtain ⟨t', rfl⟩ := ry; exact PySem.EqMixed.eq_str_int (fin_bl I q (by simp))
    | str j => obtain ⟨t', rfl⟩ := ry; exact eq_str (fin_bl I q dec_str)
    | _ => exact absurd (show false = true from hs) Bool.false_ne_true
  | byt i =>
    obtain ⟨t, rfl⟩ := rx
    cases y with
    | byt j => obtain ⟨t', rfl⟩ := ry; exact PySem.W.eq_bytes (fin_bl I q dec_byt)
    | _ => exact absurd (show false = true from hs) Bool.false_ne_true
  | _ => cases y <;> exact absurd (show false = true from hs) Bool.false_ne_true
theorem op_ne : OpR X (compareOp .NotEq) rNe := by
  intro pins s σ H x y v u Q I rx ry h
  obtain ⟨hs, q⟩ := h
  cases x with
  | non =>
    cases rx
    cases y with
    | non => cases ry; exact PySem.EqNone.ne_none_none (fin_bl I q (by simp))
    | bl j => cases ry; exact PySem.EqNone.ne_none_bool (fin_bl I q (by simp))
    | int j => obtain ⟨t', rfl⟩ := ry; exact PySem.EqNone.ne_none_int (fin_bl I q (by simp))
    | str j => obtain ⟨t', rfl⟩ := ry; exact PySem.EqNone.ne_none_str (fin_bl I q (by simp))
    | _ => exact absurd (show false = true from hs) Bool.false_ne_true
  | bl i =>
    cases rx
    cases y with
    | non => cases ry; exact PySem.EqNone.ne_bool_none (fin_bl I q (by simp))
    | bl j => cases ry; exact ne_bool (fin_bl I q (congrArg not dec_bl))
    | str j => obtain ⟨t', rfl⟩ := ry; exact PySem.EqMixed.ne_bool_str (fin_bl I q (by simp))
    | _ => exact absurd (show false = true from hs) Bool.false_ne_true
  | int i =>
    obtain ⟨t, rfl⟩ := rx
    cases y with
    | non => cases ry; exact PySem.EqNone.ne_int_none (fin_bl I q (by simp))
    | int j => obtain ⟨t', rfl⟩ := ry; exact ne_int (fin_bl I q (congrArg not dec_int))
    | str j => obtain ⟨t', rfl⟩ := ry; exact PySem.EqMixed.ne_int_str (fin_bl I q (by simp))
    | _ => exact absurd (show false = true from hs) Bool.false_ne_true
  | str i =>
    obtain ⟨t, rfl⟩ := rx
    cases y with
    | non => cases ry; exact PySem.EqNone.ne_str_none (fin_bl I q (by simp))
    | bl j => cases ry; exact PySem.EqMixed.ne_str_bool (fin_bl I q (by simp))
    | int j => obtain ⟨t', rfl⟩ := ry; exact PySem.EqMixed.ne_str_int (fin_bl I q (by simp))
    | str j => obtain ⟨t', rfl⟩ := ry; exact ne_str (fin_bl I q (congrArg not dec_str))
    | _ => exact absurd (show false = true from hs) Bool.false_ne_true
  | byt i =>
    obtain ⟨t, rfl⟩ := rx
    cases y with
    | byt j => obtain ⟨t', rfl⟩ := ry; exact PySem.W.ne_bytes (fin_bl I q (congrArg not dec_byt))
    | _ => exact absurd (show false = true from hs) Bool.false_ne_true
  | _ => cases y <;> exact absurd (show false = true from hs) Bool.false_ne_true
theorem op_lt : OpR X (compareOp .Lt) (rI0 fun i j => .bl (decide (i < j))) := opB0 fun _ _ _ _ _ _ _ q => lt_int q
theorem op_le : OpR X (compareOp .LtE) (rI0 fun i j => .bl (decide (i ≤ j))) := opB0 fun _ _ _ _ _ _ _ q => le_int q
theorem op_in_str : OpR X (compareOp .In) (fun x y H Q => ∃ i j, x = .str i ∧ y = .str j ∧ Q (.bl (!(Builtin.Str.occurrences j i 0 j.length 1).isEmpty)) H) := by
  intro pins s σ H x y v u Q I rx ry h
  obtain ⟨i, j, rfl, rfl, q⟩ := h
  obtain ⟨t, rfl⟩ := rx
  obtain ⟨t', rfl⟩ := ry
  exact in_str (fin_bl I q rfl)
theorem op_notin_str : OpR X (compareOp .NotIn) (fun x y H Q => ∃ i j, x = .str i ∧ y = .str j ∧ Q (.bl (!(!(Builtin.Str.occurrences j i 0 j.length 1).isEmpty))) H) := by
  intro pins s σ H x y v u Q I rx ry h
  obtain ⟨i, j, rfl, rfl, q⟩ := h
  obtain ⟨t, rfl⟩ := rx
  obtain ⟨t', rfl⟩ := ry
  exact notIn_str (fin_bl I q rfl)
theorem nomark (b : Expr) {op : CmpOp} (h : op ≠ .In := by decide) (h2 : op ≠ .NotIn := by decide) : behindInMarks op b = false := by
  have e1 : (op == CmpOp.In) = false := by cases op <;> first | rfl | exact absurd rfl h
  have e2 : (op == CmpOp.NotIn) = false := by cases op <;> first | rfl | exact absurd rfl h2
  cases b <;> simp [behindInMarks, e1, e2]
theorem pe_cmpR {op : CmpOp} {r : R2} (ho : OpR X (compareOp op) r) (ha : PE X a ta) (hb : PE X b tb) (hm : behindInMarks op b = false) : PE X (.Compare a [op] [b] pos) (tOp r ta tb) := by
  intro pins s σ H Q I h
  exact wpAny_Compare1 (binT ha hb I h fun v u s2 x y H2 I2 rx ry q => ho pins s2 σ H2 x y v u Q I2 rx ry q) hm
def tTest (t : TE) : TT := fun σ H Q => t σ H fun x H' => ∃ k, x = .bl k ∧ Q k H'
theorem pt_cmpR {op : CmpOp} {r : R2} (ho : OpR X (compareOp op) r) (ha : PE X a ta) (hb : PE X b tb) (hm : behindInMarks op b = false) : PT X (.Compare a [op] [b] pos) (tTest (tOp r ta tb)) := by
  intro pins s σ H Q I h
  refine wpAny_isTrue_Compare1 (thn (ha pins s σ H _ I h) fun v s1 ⟨x, H1, I1, r1, q1⟩ => thn (hb pins s1 σ H1 _ I1 q1) fun u s2 ⟨y, H2, I2, r2, q2⟩ =>
    thn (ho pins s2 σ H2 x y v u _ I2 r1 r2 q2) fun c s3 ⟨z, H3, I3, r3, k, e, q3⟩ => ?_) hm
  subst e
  cases r3
  exact wpAny_truthy_bool ⟨H3, I3, q3⟩
def tChain (r r' : R2) (ta tb tc : TE) : TE := fun σ H Q => ta σ H fun x H1 => tb σ H1 fun y H2 => r x y H2 fun z H3 => ∃ k, z = .bl k ∧
  (if k = true then tc σ H3 fun w' H4 => r' y w' H4 Q else Q (.bl false) H3)
theorem pe_chain {op op' : CmpOp} {r r' : R2} (ho : OpR X (compareOp op) r) (ho' : OpR X (compareOp op') r') (ha : PE X a ta) (hb : PE X b tb) (hc : PE X c tc)
    (hm : lastMarks [op, op'] [b, c] = false := by with_unfolding_all rfl) : PE X (.Compare a [op, op'] [b, c] pos) (tChain r r' ta tb tc) := by
  intro pins s σ H Q I h
  refine Compare_chain (thn (ha pins s σ H _ I h) fun v s1 ⟨x, H1, I1, r1, q1⟩ => chain_link (thn (hb pins s1 σ H1 _ I1 q1) fun u s2 ⟨y, H2, I2, r2, q2⟩ =>
    thn (ho pins s2 σ H2 x y v u _ I2 r1 r2 q2) fun d s3 ⟨z, H3, I3, r3, k, e, q3⟩ => ?_)) hm
  subst e
  cases r3
  refine wpAny_truthy_bool ?_
  cases k with
  | false => exact ite_ff ⟨.bl false, H3, I3, rfl, q3⟩
  | true => exact ite_tt (chain_last (thn (hc pins s3 σ H3 _ I3 q3) fun w' s4 ⟨z', H4, I4, r4, q4⟩ => ho' pins s4 σ H4 y z' u w' Q I4 r2 r4 q4))
theorem pt_chain {op op' : CmpOp} {r r' : R2} (ho : OpR X (compareOp op) r) (ho' : OpR X (compareOp op') r') (ha : PE X a ta) (hb : PE X b tb) (hc : PE X c tc)
    (hm : lastMarks [op, op'] [b, c] = false := by with_unfolding_all rfl) : PT X (.Compare a [op, op'] [b, c] pos) (tTest (tChain r r' ta tb tc)) := by
  intro pins s σ H Q I h
  refine isTrue_chain (thn (ha pins s σ H _ I h) fun v s1 ⟨x, H1, I1, r1, q1⟩ => test_link (thn (hb pins s1 σ H1 _ I1 q1) fun u s2 ⟨y, H2, I2, r2, q2⟩ =>
    thn (ho pins s2 σ H2 x y v u _ I2 r1 r2 q2) fun d s3 ⟨z, H3, I3, r3, k, e, q3⟩ => ?_)) hm
  subst e
  cases r3
  refine wpAny_truthy_bool ?_
  cases k with
  | false =>
    obtain ⟨k', e', q'⟩ := q3
    cases e'
    exact ite_ff ⟨H3, I3, q'⟩
  | true =>
    refine ite_tt (test_last (thn (hc pins s3 σ H3 _ I3 q3) fun w' s4 ⟨z', H4, I4, r4, q4⟩ => thn (ho' pins s4 σ H4 y z' u w' _ I4 r2 r4 q4) fun d' s5 ⟨z2, H5, I5, r5, k2, e2, q5⟩ => ?_))
    subst e2
    cases r5
    exact wpAny_truthy_bool ⟨H5, I5, q5⟩
theorem line63 : (sizeLine : Nat) < 2 ^ 63 := by rw [sizeLine_eq]; decide
theorem op_add_str : OpR X (binaryOp .Add) (fun x y H Q => ∃ i j, x = .str i ∧ y = .str j ∧ i.length + j.length ≤ sizeLine ∧ Q (.str (i ++ j)) H) := by
  intro pins s σ H x y v u Q I rx ry h
  obtain ⟨i, j, rfl, rfl, hz, q⟩ := h
  obtain ⟨t, rfl⟩ := rx
  obtain ⟨t', rfl⟩ := ry
  exact add_str (fun t' tk => ⟨.str (i ++ j), H, I.tok _, ⟨_, rfl⟩, q⟩) hz
theorem vals1 {x : V} {us : List Value} (r : Vals [x] us) : ∃ u, us = [u] ∧ RelV x u := by
  cases r with
  | cons r1 r2 => cases r2; exact ⟨_, rfl, r1⟩
theorem vals2 {x y : V} {us : List Value} (r : Vals [x, y] us) : ∃ u w', us = [u, w'] ∧ RelV x u ∧ RelV y w' := by
  cases r with
  | cons r1 r2 =>
    cases r2 with
    | cons r3 r4 => cases r4; exact ⟨_, _, rfl, r1, r3⟩
theorem call_int1 : CallR X (.type "int") (fun xs H Q => (∃ i, xs = [.int i] ∧ Q (.int i) H) ∨ ∃ k, xs = [.bl k] ∧ Q (.int (if k then 1 else 0)) H) := by
  intro pins s σ H xs us Q I r h
  rcases h with ⟨i, rfl, q⟩ | ⟨k, rfl, q⟩
  · obtain ⟨u, rfl, t, rfl⟩ := vals1 r
    exact call_int_int ⟨.int i, H, I, ⟨_, rfl⟩, q⟩
  · obtain ⟨u, rfl, r1⟩ := vals1 r
    cases r1
    exact call_int_bool ⟨.int (if k then 1 else 0), H, I.tok _, ⟨_, rfl⟩, q⟩
end
end L2
namespace L2
open PySem PySem.Spec PyProof.Rows
structure ObjM (h : Heap) (x dx C : Addr) (mA : Str → Option Value) : Prop where
  obj : h.get? x = some (PySem.W.instObj C dx)
  ns : h.Ns1 dx mA
  ne : dx ≠ x
theorem lookIn_ns {h : Heap} {dx : Addr} {mA : Str → Option Value} (n : h.Ns1 dx mA) : ∃ od, h.get? dx = some od ∧ ∀ name, PySem.W.lookIn name od = some (mA name) := by
  obtain ⟨o, es, ep, ho, hd, hk, _, hm⟩ := n
  refine ⟨o, ho, fun name => ?_⟩
  have e := hm name
  unfold nsFind findBy at e
  rw [← Array.find?_toList] at e
  unfold PySem.W.lookIn
  rw [hd]
  dsimp only
  split
  · rename_i y q
    rw [q] at e
    exact congrArg some e
  · rename_i q
    rw [q] at e
    have a : es.toList.any (·.refKey) = false := by
      rw [List.any_eq_false]
      intro y hy
      obtain ⟨z, t, hkey⟩ := hk y (Array.mem_toList_iff.mp hy)
      simp [DictEntry.refKey, hkey]
    have a' : ¬ es.toList.any (·.refKey) = true := by rw [a]; exact Bool.false_ne_true
    rw [if_neg a']
    exact congrArg some e
theorem ObjM.look {h : Heap} {x dx C : Addr} {mA : Str → Option Value} (I : ObjM h x dx C mA) : ∃ od, PySem.W.InstAt h x (PySem.W.instObj C dx) C (some od) ∧ ∀ name, PySem.W.lookIn name od = some (mA name) :=
  let ⟨od, ho, hl⟩ := lookIn_ns I.ns
  ⟨od, ⟨I.obj, rfl, rfl, ho⟩, hl⟩
section
variable {prog : Program} {w : World} {A : Around} {E : Value → Shared → Prop} {s : Shared} {K : PySem.W.Frag} {x dx C f : Addr} {mA : Str → Option Value} {name : Str} {v : Value}
theorem get_map {expr : Bool} {Q : Value → Shared → Prop} (X : K.In s.heap) (I : ObjM s.heap x dx C mA) (hg : PySem.W.plainGet K C name = true) (hh : PySem.W.hasDictIn K C = true)
    (ha : PySem.W.findIn K (.ref C) name = some none) (hv : mA name = some v) (hv' : PySem.W.handedIn v = true) (h : Q v { s with toks := s.toks + 1 }) :
    wpAny (model prog w) A (getAttr (.ref x) name expr) Q E s := by
  obtain ⟨od, J, hl⟩ := I.look
  exact PySem.W.get_value X J (PySem.W.plainGet_of hg).1 (PySem.W.findObj_own hh ha rfl (by rw [hl, hv])) hv' h
theorem set_map {ns : List Str} {Q : Unit → Shared → Prop} (X : K.In s.heap) (I : ObjM s.heap x dx C mA)
    (hs : PySem.W.findIn K (.ref C) "__setattr__" = some (some (.builtin "object.__setattr__"))) (hp : PySem.W.plainOver K C = true) (ht : PySem.W.takerIn K C name = some none) (hh : PySem.W.hasDictIn K C = true)
    (hw : PySem.Within mA ns) (hsz : ns.length ≤ sizeLine)
    (h : ∀ h', ObjM h' x dx C (fun y => if y = name then some v else mA y) → Heap.SameBut dx s.heap h' → Q () { s with heap := h', toks := s.toks + 2 }) :
    wpAny (model prog w) A (setAttr (.ref x) name v) Q E s := by
  obtain ⟨od, J, hl⟩ := I.look
  refine PySem.W.set_plain X J hs (PySem.W.osa_open (s := { s with toks := s.toks + 1 }) (r := none) X J hp ht fun b => ?_)
  obtain ⟨cd, hc, hd'⟩ := PySem.W.any_some hh
  have hx : s.heap.get? x = some ⟨.ref C, some dx, .plain, #[]⟩ := I.obj
  refine wpAny_bind (wpAny_pure (wpAny_bind (wpAny_bind (wpAny_loadPart hx (wpAny_bind (PySem.W.Looks.here (s := { s with toks := s.toks + 1 }) (PySem.W.looks_clsIn X hc) ?_))))))
  rw [hd']
  refine wpAny_pure (a := some dx) (wpAny_bind (wpAny_pure (wpAny_bind ?_)))
  refine wpAny_nsSet1 (s := { s with toks := s.toks + 1 }) I.ns fun h' hn2 hs2 => ?_
  obtain ⟨oD, esD, epD, hoD, hdD, hcD⟩ := hn2.count (PySem.Within.cons name v hw)
  refine wpAny_bind (wpAny_lookBehind hoD (by rw [hdD]; exact pastItsLine_dict (Nat.le_trans hcD (by rw [List.length_cons]; omega))) ?_)
  exact wpAny_pure (h _ ⟨(hs2.2 _ (Ne.symm I.ne)).trans I.obj, hn2, I.ne⟩ hs2)
theorem make_map {R : Result → Shared → Prop} {vs : List Value} {kw : List (Str × Value)} (X : K.In s.heap) (hm : PySem.W.makesIn K C = true)
    (hi : PySem.W.findIn K (.ref C) "__init__" = some (some (.ref f))) (hf : PySem.W.typeIn K (.ref f) = some (.type "function"))
    (h : codeAny (model prog w) (A.under (.builtin "type.__call__" ⟨.ref C :: vs, kw⟩)) (.call (.ref f) ⟨.ref (s.heap.objs.size + 1) :: vs, kw⟩) (PySem.W.InitBack (s.heap.objs.size + 1) R)
      { s with heap := (s.heap.push PySem.W.emptyDict).push (PySem.W.instObj C s.heap.objs.size) }) :
    codeAny (model prog w) A (.call (.ref C) ⟨vs, kw⟩) R s := by
  obtain ⟨hh, g, d, t, os⟩ := s
  exact PySem.W.make_core (PySem.W.makes_of X hm) (PySem.W.looks_findIn X hi) (fun self => PySem.W.bind_fn X self hf) (.inl rfl) h
end
def putF (f : Str) (v : V) : List (Str × V) → List (Str × V)
  | [] => [(f, v)]
  | (g, x) :: r => if g = f then (g, v) :: r else (g, x) :: putF f v r
theorem lookup_putF (f g : Str) (v : V) : ∀ fs : List (Str × V), (putF f v fs).lookup g = if g = f then some v else fs.lookup g
  | [] => by
    show List.lookup g [(f, v)] = _
    by_cases h : g = f
    · have hb : (g == f) = true := beq_iff_eq.mpr h
      simp only [List.lookup, hb, if_pos h]
    · have hb : (g == f) = false := beq_eq_false_iff_ne.mpr h
      simp only [List.lookup, hb, if_neg h]
  | (k, x) :: r => by
    have ih := lookup_putF f g v r
    rw [show putF f v ((k, x) :: r) = (if k = f then (k, v) :: r else (k, x) :: putF f v r) from rfl]
    by_cases hk : k = f
    · rw [if_pos hk]
      by_cases h : g = k
      · have hb : (g == k) = true := beq_iff_eq.mpr h
        simp only [List.lookup, hb, if_pos (h.trans hk)]
      · have hb : (g == k) = false := beq_eq_false_iff_ne.mpr h
        simp only [List.lookup, hb, if_neg (fun e : g = f => h (e.trans hk.symm))]
    · rw [if_neg hk]
      by_cases h : g = k
      · have hb : (g == k) = true := beq_iff_eq.mpr h
        simp only [List.lookup, hb, if_neg (fun e : g = f => hk (h.symm.trans e))]
      · have hb : (g == k) = false := beq_eq_false_iff_ne.mpr h
        simp only [List.lookup, hb]
        exact ih
theorem keys_putF (f : Str) (v : V) : ∀ fs : List (Str × V), f ∈ (putF f v fs).map (·.1) ∧ ∀ g, g ∈ fs.map (·.1) → g ∈ (putF f v fs).map (·.1)
  | [] => ⟨by simp [putF], fun g h => by simp at h⟩
  | (k, x) :: r => by
    obtain ⟨i1, i2⟩ := keys_putF f v r
    rw [show putF f v ((k, x) :: r) = (if k = f then (k, v) :: r else (k, x) :: putF f v r) from rfl]
    by_cases hk : k = f
    · rw [if_pos hk]
      subst hk
      exact ⟨by simp, fun g h => by simpa using h⟩
    · rw [if_neg hk]
      refine ⟨?_, fun g h => ?_⟩
      · rw [List.map_cons]
        exact List.mem_cons_of_mem _ i1
      · rw [List.map_cons] at h ⊢
        rcases List.mem_cons.mp h with e | e
        · exact List.mem_cons.mpr (.inl e)
        · exact List.mem_cons_of_mem _ (i2 g e)
theorem length_putF (f : Str) (v : V) : ∀ fs : List (Str × V), (putF f v fs).length ≤ fs.length + 1
  | [] => by simp [putF]
  | (k, x) :: r => by
    have ih := length_putF f v r
    rw [show putF f v ((k, x) :: r) = (if k = f then (k, v) :: r else (k, x) :: putF f v r) from rfl]
    by_cases hk : k = f
    · rw [if_pos hk, List.length_cons, List.length_cons]; omega
    · rw [if_neg hk, List.length_cons, List.length_cons]; omega
theorem RelO.some_of {v : V} {o : Option Value} (r : RelO (some v) o) : ∃ u, o = some u ∧ RelV v u := by
  cases o with
  | none => exact (show False from r).elim
  | some u => exact ⟨u, rfl, r⟩
theorem handed_of {v : V} {u : Value} (r : RelV v u) : PySem.W.handedIn u = true := by
  cases v with
  | non => cases (show u = Value.none from r); rfl
  | bl b => cases (show u = Value.bool b from r); rfl
  | int i => obtain ⟨t, e⟩ := (show ∃ t, u = Value.int i t from r); cases e; rfl
  | str x => obtain ⟨t, e⟩ := (show ∃ t, u = Value.str x t from r); cases e; rfl
  | byt b => obtain ⟨t, e⟩ := (show ∃ t, u = Value.bytes b t from r); cases e; rfl
  | flt b => obtain ⟨t, e⟩ := (show ∃ t, u = Value.float b t from r); cases e; rfl
  | ref a => cases (show u = Value.ref a from r); rfl
  | ty n => cases (show u = Value.type n from r); rfl
section
variable {P : Program} {w : World} {H H' : Hp} {h h' : Heap} {a C dx : Addr} {fs fs' : List (Str × V)}
theorem ins_get (hok : HOk P w H h) (e : H a = some (.ins C dx fs)) : ∃ mA, ObjM h a dx C mA ∧ (∀ f, RelO (fs.lookup f) (mA f)) ∧ PySem.Within mA (fs.map (·.1)) ∧ fs.length ≤ 1000 ∧ H dx = some (.own a) := by
  obtain ⟨d, z, ne, ob, mA, n, r, q⟩ := (show ObjOk P w H h a (.ins C dx fs) from hok a _ e)
  exact ⟨mA, ⟨ob, n, ne⟩, r, q, z, d⟩
end
structure Cls (K : PySem.W.Frag) (C : Addr) : Prop where
  pg : PySem.W.plainGet K C Str.empty = true
  hd : PySem.W.hasDictIn K C = true
  po : PySem.W.plainOver K C = true
  sa : PySem.W.findIn K (.ref C) "__setattr__" = some (some (.builtin "object.__setattr__"))
theorem Cls.get {K : PySem.W.Frag} {C : Addr} (c : Cls K C) (f : Str) : PySem.W.plainGet K C f = true := c.pg
def NoAttr (K : PySem.W.Frag) (C : Addr) (f : Str) : Prop := PySem.W.findIn K (.ref C) f = some none
theorem NoAttr.taker {K : PySem.W.Frag} {C : Addr} {f : Str} (n : NoAttr K C f) : PySem.W.takerIn K C f = some none := by
  unfold PySem.W.takerIn
  rw [show PySem.W.findIn K (.ref C) f = some none from n]
  rfl
section
variable {X : Cx} {pins : List (Addr × Obj)} {σ : St} {H : Hp} {s : Shared} {a C dx : Addr} {fs : List (Str × V)} {f : Str} {v : V} {A : Around} {E : Value → Shared → Prop}
theorem getattr_ok {b : Bool} {Q : Value → Shared → Prop} (I : Inv X pins σ H s) (e : H a = some (.ins C dx fs)) (c : Cls X.K C) (n : NoAttr X.K C f) (l : fs.lookup f = some v)
    (h : ∀ u s', Inv X pins σ H s' → RelV v u → Q u s') : wpAny (model X.prog X.w) A (getAttr (.ref a) f b) Q E s := by
  obtain ⟨mA, O, r, _, _, _⟩ := ins_get I.hok e
  obtain ⟨u, hu, ru⟩ := RelO.some_of (v := v) (o := mA f) (by rw [← l]; exact r f)
  exact get_map I.kIn O (c.get f) c.hd n hu (handed_of ru) (h u _ (I.tok _) ru)
theorem setattr_ok {y : V} {u : Value} {Q : Unit → Shared → Prop} (I : Inv X pins σ H s) (e : H a = some (.ins C dx fs)) (c : Cls X.K C) (n : NoAttr X.K C f) (hl : fs.length < 1000) (ry : RelV y u)
    (h : ∀ s', Inv X pins σ (upd H a (.ins C dx (putF f y fs))) s' → Q () s') : wpAny (model X.prog X.w) A (setAttr (.ref a) f u) Q E s := by
  obtain ⟨mA, O, r, wi, _, ho⟩ := ins_get I.hok e
  have hz : (fs.map (·.1)).length ≤ sizeLine := by rw [List.length_map, sizeLine_eq]; omega
  refine set_map I.kIn O c.sa c.po n.taker c.hd wi hz fun h' O' sb => h _ ?_
  have hd : ∃ o, h'.get? dx = some o := let ⟨o, _, _, e', _⟩ := O'.ns; ⟨o, e'⟩
  refine I.write (x := a) (e := dx) (by rw [e]; exact True.intro) (.inr ho) (fun b q hb z => (sb.2 b hb).trans z) hd ?_
  refine ⟨by rw [upd_ne O.ne]; exact ho, ?_, O.ne, O'.obj, _, O'.ns, fun g => ?_, fun g hg => ?_⟩
  · have := length_putF f y fs; omega
  · show RelO ((putF f y fs).lookup g) (if g = f then some u else mA g)
    rw [lookup_putF]
    by_cases q : g = f
    · rw [if_pos q, if_pos q]; exact ry
    · rw [if_neg q, if_neg q]; exact r g
  · by_cases q : g = f
    · rw [q]; exact (keys_putF f y fs).1
    · refine (keys_putF f y fs).2 g (wi g fun z => hg ?_)
      show (if g = f then some u else mA g) = none
      rw [if_neg q]; exact z
theorem Inv.made (I : Inv X pins σ H s) : Inv X pins σ (upd (upd H s.heap.objs.size (.own (s.heap.objs.size + 1))) (s.heap.objs.size + 1) (.ins C s.heap.objs.size []))
    { s with heap := (s.heap.push PySem.W.emptyDict).push (PySem.W.instObj C s.heap.objs.size) } := by
  have e1 : (s.heap.push PySem.W.emptyDict).get? s.heap.objs.size = some PySem.W.emptyDict := Heap.get?_push_size s.heap rfl
  have e2 : ((s.heap.push PySem.W.emptyDict).push (PySem.W.instObj C s.heap.objs.size)).get? (s.heap.objs.size + 1) = some (PySem.W.instObj C s.heap.objs.size) := by
    have := Heap.get?_push_size (s.heap.push PySem.W.emptyDict) (o := PySem.W.instObj C s.heap.objs.size) rfl
    rwa [Heap.size_push] at this
  have e3 : (s.heap.push PySem.W.emptyDict).Ns s.heap.objs.size (fun _ => none) := ⟨PySem.W.emptyDict, #[], _, e1, rfl, (fun e he => absurd he (by simp)), fun _ => rfl⟩
  have I1 := I.laid (a := s.heap.objs.size) (o := .own (s.heap.objs.size + 1)) (h' := s.heap.push PySem.W.emptyDict) (t' := s.toks) (fun b u q => Heap.get?_push_of_some _ q) (Nat.le_refl _) ⟨_, e1⟩
  refine I1.laid (a := s.heap.objs.size + 1) (o := .ins C s.heap.objs.size []) (t' := s.toks) (fun b u q => Heap.get?_push_of_some _ q) (Nat.le_of_eq (Heap.size_push _ _)) ?_
  have ne : s.heap.objs.size ≠ s.heap.objs.size + 1 := Nat.ne_of_lt (Nat.lt_succ_self _)
  refine ⟨by rw [upd_ne ne, upd_same], Nat.zero_le _, ne, e2, fun _ => none, (Heap.Ns1.of_empty e3).at fun o q => Heap.get?_push_of_some _ q, fun _ => True.intro, fun y hy => absurd rfl hy⟩
theorem attr_of {prog : Program} {w : World} {env : Env} {e : Expr} {f : Str} {pos : Pos} {s : Shared} {Q : Value → Shared → Prop} (hb : attributeBase e f env (eval e env) = eval e env)
    (h : wpAny (model prog w) A (eval e env) (fun o s₁ => wpAny (model prog w) A (getAttr o f true) Q E s₁) E s) : wpAny (model prog w) A (eval (.Attribute e f pos) env) Q E s :=
  Attribute_any_ h (by rw [arm_eval_Attribute, hb])
end
def tFld (K : PySem.W.Frag) (ta : TE) (f : Str) : TE := fun σ H Q => ta σ H fun x H1 => ∃ a C dx fs v, x = .ref a ∧ H1 a = some (.ins C dx fs) ∧ Cls K C ∧ NoAttr K C f ∧ fs.lookup f = some v ∧ Q v H1
def sFld (K : PySem.W.Frag) (ta tv : TE) (f : Str) : TS := fun D σ H => tv σ H fun y H1 => ta σ H1 fun x H2 => ∃ a C dx fs, x = .ref a ∧ H2 a = some (.ins C dx fs) ∧ Cls K C ∧ NoAttr K C f ∧ fs.length < 1000 ∧
  D.nx σ (upd H2 a (.ins C dx (putF f y fs)))
section
variable {X : Cx} {o e value : Expr} {f : Str} {pos pos' tpos : Pos} {ta tv : TE}
theorem pe_fld (he : PE X e ta) (hb : attributeBase e f X.env (eval e X.env) = eval e X.env) : PE X (.Attribute e f pos) (tFld X.K ta f) := by
  intro pins s σ H Q I h
  refine attr_of hb (thn (he pins s σ H _ I h) fun u s1 ⟨x, H1, I1, rx, a, C, dx, fs, v, ex, ea, c, n, l, q⟩ => ?_)
  subst ex
  obtain rfl : u = Value.ref a := rx
  exact getattr_ok I1 ea c n l fun u' s2 I2 ru => ⟨v, H1, I2, ru, q⟩
theorem ps_fld (ha : PE X o ta) (hv : PE X value tv) (hs : swapsWith value (some (.Attribute o f pos')) pos.line X.env = pure false) : PS X (.Assign [.Attribute o f pos'] value pos) (sFld X.K ta tv f) := by
  intro pins s σ H D I h
  refine plainObj_wpAny_Assign_Attribute (thn (hv pins s σ H _ I h) fun u s1 ⟨y, H1, I1, ry, q⟩ => thn (ha pins s1 σ H1 _ I1 q) fun ov s2 ⟨x, H2, I2, rx, a, C, dx, fs, ex, ea, c, n, l, q2⟩ => ?_) hs
  subst ex
  obtain rfl : ov = Value.ref a := rx
  exact setattr_ok I2 ea c n l ry fun s3 I3 => ⟨σ, _, I3, q2⟩
end
section
variable {X : Cx} {pins : List (Addr × Obj)} {σ : St} {H : Hp} {s : Shared} {A : Around} {E : Value → Shared → Prop} {Q : Value → Shared → Prop} {c : Value} {b : Bool}
inductive TyOf (K : PySem.W.Frag) (H : Hp) : V → Value → Prop where
  | non : TyOf K H .non (.type "NoneType")
  | bl (x : Bool) : TyOf K H (.bl x) (.type "bool")
  | int (i : Int) : TyOf K H (.int i) (.type "int")
  | str (x : Str) : TyOf K H (.str x) (.type "str")
  | flt (x : UInt64) : TyOf K H (.flt x) (.type "float")
  | lst {a : Addr} {xs : List V} (e : H a = some (.lst xs)) : TyOf K H (.ref a) (.type "list")
  | frz {a : Addr} {o : Obj} {xs : List V} (e : H a = some (.frz o (.lst xs))) : TyOf K H (.ref a) (.type "list")
  | tup {a : Addr} {xs : List V} (e : H a = some (.tup xs)) : TyOf K H (.ref a) (.type "tuple")
  | dK {a : Addr} {kvs : List (Key × V)} (e : H a = some (.dK kvs)) : TyOf K H (.ref a) (.type "dict")
  | dT {a : Addr} {kvs : List (List Key × V)} (e : H a = some (.dT kvs)) : TyOf K H (.ref a) (.type "dict")
  | ins {a C dx : Addr} {fs : List (Str × V)} (e : H a = some (.ins C dx fs)) (cl : Cls K C) (ha : PySem.W.findIn K (.ref C) "__class__" = some (some (.builtin "object.__class__")))
      (hn : PySem.W.specialIn K (.builtin "object.__class__") "__get__" = some (some (.builtin "getset_descriptor.__get__"))) (htk : PySem.W.takesIn K (.builtin "object.__class__") = some true)
      (hm : PySem.W.mroIn K C (.type "object") = some true) : TyOf K H (.ref a) (.ref C)
theorem isinst_ok {x : V} {u t : Value} (I : Inv X pins σ H s) (rx : RelV x u) (ty : TyOf X.K H x t) (e : PySem.W.kitOne X.K t c = some b) (h : ∀ tk, Q (.bool b) { s with toks := tk }) :
    wpAny (model X.prog X.w) A (call (.builtin "isinstance") [u, c]) Q E s := by
  cases ty with
  | non => cases (show u = Value.none from rx); exact PySem.W.kia_one PySem.W.kitx_none I.kIn True.intro e (fun z => nomatch z) h
  | bl y => cases (show u = Value.bool y from rx); exact PySem.W.kia_one PySem.W.kitx_bool I.kIn True.intro e (fun z => nomatch z) h
  | int i => obtain ⟨t, q⟩ := (show ∃ t, u = Value.int i t from rx); cases q; exact PySem.W.kia_one PySem.W.kitx_int I.kIn True.intro e (fun z => nomatch z) h
  | str y => obtain ⟨t, q⟩ := (show ∃ t, u = Value.str y t from rx); cases q; exact PySem.W.kia_one PySem.W.kitx_str I.kIn True.intro e (fun z => nomatch z) h
  | flt y => obtain ⟨t, q⟩ := (show ∃ t, u = Value.float y t from rx); cases q; exact PySem.W.kia_one PySem.W.kitx_float I.kIn True.intro e (fun z => nomatch z) h
  | @lst a xs ea =>
    cases (show u = Value.ref a from rx)
    obtain ⟨_, _, n, _, h1⟩ := (show ObjOk X.prog X.w H s.heap a (.lst xs) from I.hok a _ ea)
    exact PySem.W.kia_one PySem.W.kitx_list I.kIn ⟨_, h1, rfl⟩ e (fun z => nomatch z) h
  | @frz a ob xs ea =>
    cases (show u = Value.ref a from rx)
    obtain ⟨_, _, _, n, _, h1⟩ := (show ObjOk X.prog X.w H s.heap a (.frz ob (.lst xs)) from I.hok a _ ea)
    exact PySem.W.kia_one PySem.W.kitx_list I.kIn ⟨_, h1, rfl⟩ e (fun z => nomatch z) h
  | @tup a xs ea =>
    cases (show u = Value.ref a from rx)
    obtain ⟨_, _, _, p⟩ := (show ObjOk X.prog X.w H s.heap a (.tup xs) from I.hok a _ ea)
    obtain ⟨o, h1, h2, _⟩ := p
    exact PySem.W.kia_one PySem.W.kitx_tuple I.kIn ⟨o, h1, h2⟩ e (fun z => nomatch z) h
  | @dK a kvs ea =>
    cases (show u = Value.ref a from rx)
    obtain ⟨_, _, vs, _, p⟩ := (show ObjOk X.prog X.w H s.heap a (.dK kvs) from I.hok a _ ea)
    obtain ⟨o, es, ep, h1, h2, _⟩ := p
    exact PySem.W.kia_one PySem.W.kitx_dict I.kIn ⟨o, h1, h2.1⟩ e (fun z => nomatch z) h
  | @dT a kvs ea =>
    cases (show u = Value.ref a from rx)
    obtain ⟨_, _, xs, _, o, es, ep, h1, h2, _⟩ := (show ObjOk X.prog X.w H s.heap a (.dT kvs) from I.hok a _ ea)
    exact PySem.W.kia_one PySem.W.kitx_dict I.kIn ⟨o, h1, h2.1⟩ e (fun z => nomatch z) h
  | @ins a C dx fs ea cl ha hn htk hm =>
    cases (show u = Value.ref a from rx)
    obtain ⟨mA, O, _⟩ := ins_get I.hok ea
    obtain ⟨od, J, _⟩ := O.look
    exact PySem.W.kia_one (PySem.W.kitx_own (cl.get _) cl.hd ha hn htk hm) I.kIn J e (fun z => nomatch z) h
end
end L2
namespace L2
open PySem PySem.Spec PyProof.Rows
structure Room (k : Nat) (A : Around) : Prop where
  hd : A.handled = none
  dp : A.depth + 3 * k + 5 < recursionLimit
  un : A.units + 16 * k + 200 < cLine
theorem Room.mono {j k : Nat} {A : Around} (r : Room k A) (h : j ≤ k) : Room j A := ⟨r.hd, by have := r.dp; omega, by have := r.un; omega⟩
theorem Room.deeper {k : Nat} {A : Around} (r : Room (k + 1) A) (env : Env) : Room k (A.deeper env) :=
  ⟨r.hd, by have := r.dp; show A.depth + 1 + 3 * k + 5 < _; omega, by have := r.un; show A.units + 3 + 16 * k + 200 < _; omega⟩
theorem Room.in1 {k : Nat} {A : Around} (r : Room (k + 1) A) : Room k A.in1 :=
  ⟨r.hd, by have := r.dp; show A.depth + 3 * k + 5 < _; omega, by have := r.un; show A.units + 1 + 16 * k + 200 < _; omega⟩
theorem make_depth {A : Around} {C : Addr} {us : List Value} {kw : List (Str × Value)} : (A.under (.builtin "type.__call__" ⟨.ref C :: us, kw⟩)).depth = A.depth + 1 := by
  first | rfl | simp [Around.under, Code.weight, Code.isCreation, Code.isGuard, Code.isCaller, Code.frames, Code.isFrame, guardIds]
theorem make_units {A : Around} {C : Addr} {us : List Value} {kw : List (Str × Value)} : (A.under (.builtin "type.__call__" ⟨.ref C :: us, kw⟩)).units = A.units + 1 := by
  first | rfl | simp [Around.under, Code.cUnits, Code.frames, Code.isFrame]
theorem Room.make {k : Nat} {A : Around} (r : Room (k + 1) A) (C : Addr) (us : List Value) (kw : List (Str × Value)) : Room k (A.under (.builtin "type.__call__" ⟨.ref C :: us, kw⟩)) :=
  ⟨r.hd, by have := r.dp; rw [make_depth]; omega, by have := r.un; rw [make_units]; omega⟩
theorem Room.depth {k : Nat} {A : Around} (r : Room k A) : A.depth < recursionLimit := by have := r.dp; omega
theorem Room.units {k : Nat} {A : Around} (r : Room k A) : A.units + 64 < cLine := by have := r.un; omega
theorem Room.units0 {k : Nat} {A : Around} (r : Room k A) : A.units < cLine := by have := r.un; omega
def tNil : TA := fun _ H Q => Q [] H
def tCons (ta : TE) (tr : TA) : TA := fun σ H Q => ta σ H fun x H1 => tr σ H1 fun xs H2 => Q (x :: xs) H2
section
variable {X : Cx} {e : Expr} {es : List Expr} {te : TE} {t : TA} {pos : Pos}
theorem pa_nil : PA X [] tNil := fun _ _ _ _ H Q I h => Calls.spliced_nil ⟨[], H, I, .nil, h⟩
theorem pa_cons (ha : PE X e te) (hr : PA X es t) (hs : starEach (e :: es) X.env = (false, eval e X.env) :: starEach es X.env := by rfl) : PA X (e :: es) (tCons te t) := by
  intro pos pins s σ H Q I h
  rw [hs]
  show wpAny _ _ (spliced ((false, eval e X.env) :: backTo pos (starEach es X.env))) _ _ s
  refine Calls.spliced_cons (thn (ha pins s σ H _ I h) fun u s1 ⟨x, H1, I1, r1, q1⟩ => ?_)
  exact thn (hr pos pins s1 σ H1 _ I1 q1) fun us s2 ⟨xs, H2, I2, r2, q2⟩ => ⟨x :: xs, H2, I2, .cons r1 r2, q2⟩
def tTup (t : TA) : TE := fun σ H Q => t σ H fun xs H1 => xs.length ≤ sizeLine ∧ ∀ p, H1 p = none → Q (.ref p) (upd H1 p (.tup xs))
def tLst (t : TA) : TE := fun σ H Q => t σ H fun xs H1 => xs.length ≤ sizeLine ∧ ∀ p, H1 p = none → Q (.ref p) (upd H1 p (.lst xs))
theorem pe_tup {x1} (h : PA X es t) : PE X (.Tuple es x1 pos) (tTup t) := by
  intro pins s σ H Q I hq
  refine wpAny_Tuple_spliced (thn (h pos pins s σ H _ I hq) fun us s1 ⟨xs, H1, I1, r, z, q⟩ => ⟨by rw [← r.length]; exact z, ?_⟩)
  have hf : H1 s1.heap.objs.size = none := I1.hok.fresh (Nat.le_refl _)
  refine ⟨.ref s1.heap.objs.size, upd H1 s1.heap.objs.size (.tup xs), I1.laid (t' := s1.toks) (fun b u e => Heap.get?_push_of_some _ e) (Nat.le_refl _) ?_, rfl, q _ hf⟩
  exact ⟨z, us, r, ⟨_, Heap.get?_push_size _ rfl, rfl, _, rfl⟩⟩
theorem pe_lst (h : PA X es t) : PE X (.List es pos) (tLst t) := by
  intro pins s σ H Q I hq
  refine wpAny_List_spliced (thn (h pos pins s σ H _ I hq) fun us s1 ⟨xs, H1, I1, r, z, q⟩ => ⟨by rw [← r.length]; exact z, ?_⟩)
  have hf : H1 s1.heap.objs.size = none := I1.hok.fresh (Nat.le_refl _)
  refine ⟨.ref s1.heap.objs.size, upd H1 s1.heap.objs.size (.lst xs), I1.laid (t' := s1.toks) (fun b u e => Heap.get?_push_of_some _ e) (Nat.le_refl _) ?_, rfl, q _ hf⟩
  exact ⟨z, us, 0, r, Heap.get?_push_size _ rfl⟩
end
abbrev Sp := List V → Hp → VK → XK → Prop
abbrev CXT := List Env → Hp → Shared → XK → Value → Shared → Prop
structure Env0 (P : Program) (w : World) (K : PySem.W.Frag) (mg : Str → Option Value) (base : Heap) (A : Around) (outer : List Env) (s : Shared) (H : Hp) : Prop where
  frames : A.frames = some outer
  mod : Mod K mg base
  bs : ∀ b o, base.get? b = some o → s.heap.get? b = some o ∧ H b = none
  bsz : base.objs.size ≤ s.heap.objs.size
  funs : s.heap.FunFrames base outer
  frf : ∀ b ∈ frs outer, H b = none
  hok : HOk P w H s.heap
  bare : AllBare s.gens
def CE (outer : List Env) (P : Program) (w : World) (H : Hp) (s : Shared) (Q : VK) (u : Value) (s' : Shared) : Prop :=
  ∃ v H', s'.os = s.os ∧ AllBare s'.gens ∧ Un (frs outer) [] H H' s.heap s'.heap ∧ HOk P w H' s'.heap ∧ RelV v u ∧ Q v H'
def CR (CX : CXT) (outer : List Env) (P : Program) (w : World) (H : Hp) (s : Shared) (Q : VK) (E : XK) (r : Result) (s' : Shared) : Prop :=
  match r with
  | .ok (.ret u) => CE outer P w H s Q u s'
  | .ok _ => False
  | .error e => CX outer H s E e s'
structure FnOk (P : Program) (w : World) (K : PySem.W.Frag) (mg : Str → Option Value) (base : Heap) (CX : CXT) (k : Nat) (f : Addr) (fd : FuncData) (ps : List Str) (sp : Sp) : Prop where
  len : ∀ vs H Q E, sp vs H Q E → vs.length = ps.length
  run : ∀ (A : Around) (outer : List Env) (s : Shared) (H : Hp) (args : Args) (us : List Value) (vs : List V) (Q : VK) (E : XK), Room k A → Env0 P w K mg base A outer s H → BindsTo s fd args (ps.zip us) → Vals vs us → sp vs H Q E →
    codeAny (model P w) A (.call (.ref f) args) (CR CX outer P w H s Q E) s
theorem FnOk.mono {P : Program} {w : World} {K : PySem.W.Frag} {mg : Str → Option Value} {base : Heap} {CX : CXT} {j k : Nat} {f : Addr} {fd : FuncData} {ps : List Str} {sp : Sp} (F : FnOk P w K mg base CX j f fd ps sp) (h : j ≤ k) :
    FnOk P w K mg base CX k f fd ps sp := ⟨F.len, fun A outer s H args us vs Q E hr => F.run A outer s H args us vs Q E (hr.mono h)⟩
theorem FnOk.imp {P : Program} {w : World} {K : PySem.W.Frag} {mg : Str → Option Value} {base : Heap} {CX : CXT} {k : Nat} {f : Addr} {fd : FuncData} {ps : List Str} {sp sp' : Sp} (F : FnOk P w K mg base CX k f fd ps sp)
    (h : ∀ vs H Q E, sp' vs H Q E → sp vs H Q E) : FnOk P w K mg base CX k f fd ps sp' :=
  ⟨fun vs H Q E q => F.len vs H Q E (h _ _ _ _ q), fun A outer s H args us vs Q E hr he hb hv hs => F.run A outer s H args us vs Q E hr he hb hv (h _ _ _ _ hs)⟩
theorem Env0.make {P : Program} {w : World} {K : PySem.W.Frag} {mg : Str → Option Value} {base : Heap} {A : Around} {outer : List Env} {s : Shared} {H : Hp} (e : Env0 P w K mg base A outer s H) (C : Addr) (us : List Value) (kw : List (Str × Value)) :
    Env0 P w K mg base (A.under (.builtin "type.__call__" ⟨.ref C :: us, kw⟩)) outer s H := ⟨by first | exact e.frames | (simpa [Around.under, Code.envs, Code.isFrame, pushEnvs] using e.frames), e.mod, e.bs, e.bsz, e.funs, e.frf, e.hok, e.bare⟩
theorem Env0.in1 {P : Program} {w : World} {K : PySem.W.Frag} {mg : Str → Option Value} {base : Heap} {A : Around} {outer : List Env} {s : Shared} {H : Hp} (e : Env0 P w K mg base A outer s H) :
    Env0 P w K mg base A.in1 outer s H := ⟨e.frames, e.mod, e.bs, e.bsz, e.funs, e.frf, e.hok, e.bare⟩
section
variable {X : Cx} {pins : List (Addr × Obj)} {σ : St} {H : Hp} {s s' : Shared}
theorem Inv.env0 (I : Inv X pins σ H s) : Env0 X.prog X.w X.K X.mg X.base X.A X.stack s H :=
  ⟨I.ok.frames, I.ok.mod, I.bs, Nat.le_trans I.ok.bsz I.sz, I.stack, I.stkFree, I.hok, I.bare⟩
theorem Inv.after {Q : VK} {u : Value} (I : Inv X pins σ H s) (h : CE X.stack X.prog X.w H s Q u s') : EP X pins σ Q u s' := by
  obtain ⟨v, H', os, bare, un, hok, r, q⟩ := h
  obtain ⟨hh, g, d, t, os'⟩ := s'
  obtain rfl : os' = s.os := os
  exact ⟨v, H', I.call (h' := hh) (g' := g) (d' := d) (t' := t) (ch := []) un hok bare (fun b z => absurd z (by simp)), r, q⟩
end
def tCall (sp : Sp) (dvs : List V) (E : XK) (t : TA) : TE := fun σ H Q => t σ H fun vs H1 => sp (vs ++ dvs) H1 Q E
def tMeth (C : Addr) (m : Str) (sp : Sp) (dvs : List V) (E : XK) (ta : TE) (t : TA) : TE := fun σ H Q => ta σ H fun x H1 => ∃ a dx fs, x = .ref a ∧ H1 a = some (.ins C dx fs) ∧ fs.lookup m = none ∧
  t σ H1 fun vs H2 => sp (x :: (vs ++ dvs)) H2 Q E
def tMake (C : Addr) (sp : Sp) (dvs : List V) (E : XK) (t : TA) : TE := fun σ H Q => t σ H fun vs H1 => ∀ x dx, H1 x = none → H1 dx = none → dx ≠ x →
  sp (.ref x :: (vs ++ dvs)) (upd (upd H1 dx (.own x)) x (.ins C dx [])) (fun v H2 => v = .non ∧ Q (.ref x) H2) E
def Binds (K : PySem.W.Frag) (fd : FuncData) (ps : List Str) (ds : List Value) : Prop :=
  ∀ (s : Shared) (us : List Value), K.In s.heap → (us ++ ds).length = ps.length → BindsTo s fd ⟨us, []⟩ (ps.zip (us ++ ds))
theorem Binds.all {K : PySem.W.Frag} {fd : FuncData} {ps : List Str} (h : ∀ us : List Value, us.length = ps.length → bindArgs fd ⟨us, []⟩ = pure (ps.zip us)) : Binds K fd ps [] := fun s us _ hl => by
  rw [List.append_nil] at hl ⊢
  exact .of_eq (h us hl)
def Passes (CX : CXT) (X : Cx) (E : XK) : Prop := ∀ (pins : List (Addr × Obj)) (σ : St) (H : Hp) (s : Shared) (e : Value) (s' : Shared), Inv X pins σ H s → CX X.stack H s E e s' → X.xe e s'
section
variable {X : Cx} {CX : CXT} {k : Nat} {f C : Addr} {fd : FuncData} {ps : List Str} {sp : Sp} {dvs : List V} {ds : List Value} {E : XK} {x m : Str} {p pos apos : Pos} {e o : Expr} {es : List Expr} {ta : TE} {t : TA}
theorem run_fn {pins : List (Addr × Obj)} {σ : St} {H : Hp} {s : Shared} {Q : VK} {us : List Value} {vs : List V} (F : FnOk X.prog X.w X.K X.mg X.base CX k f fd ps sp) (hr : Room k X.A) (hb : Binds X.K fd ps ds) (hd : Vals dvs ds) (hx : Passes CX X E)
    (I : Inv X pins σ H s) (r : Vals vs us) (h : sp (vs ++ dvs) H Q E) : wpAny (model X.prog X.w) X.A (call (.ref f) us) (EP X pins σ Q) X.xe s := by
  have r2 : Vals (vs ++ dvs) (us ++ ds) := r.append hd
  have hl : (us ++ ds).length = ps.length := by rw [← r2.length]; exact F.len _ _ _ _ h
  refine wpAny_call (codeAny_mono (F.run X.A X.stack s H ⟨us, []⟩ (us ++ ds) (vs ++ dvs) Q E hr I.env0 (hb s us I.kIn hl) r2 h) fun r s' hq => ?_)
  cases r with
  | error e => exact hx pins σ H s e s' I hq
  | ok fl =>
    cases fl with
    | ret u => exact I.after hq
    | next => exact False.elim hq
    | brk => exact False.elim hq
    | cont => exact False.elim hq
theorem pe_call (F : FnOk X.prog X.w X.K X.mg X.base CX k f fd ps sp) (hr : Room k X.A) (hg : Gl X x) (hm : X.mg x = some (.ref f)) (hk : PySem.W.keepIn X.K (.ref f) = true) (hb : Binds X.K fd ps ds) (hd : Vals dvs ds) (hx : Passes CX X E)
    (ha : PA X (e :: es) t) (hdb : (x == ("__debug__" : Str)) = false := by decide) (he : starEach (e :: es) X.env = (false, eval e X.env) :: starEach es X.env := by rfl) (hpl : (backTo pos (starEach es X.env)).any (·.1) = false := by rfl) :
    PE X (.Call (.Name x p) (e :: es) [] pos) (tCall sp dvs E t) := by
  intro pins s σ H Q I h
  refine wpAny_Call_Name_kw (ld_glob I hg hm ?_ hdb)
  refine PySem.W.callWith_K (h₀ := X.base) I.ok.mod.kin hk (thn (ha pos pins s σ H _ I h) fun us s1 ⟨vs, H1, I1, r, q⟩ => ⟨I1.kIn, ?_⟩) he hpl
  exact run_fn F hr hb hd hx I1 r q
structure Mk (K : PySem.W.Frag) (C f : Addr) : Prop where
  makes : PySem.W.makesIn K C = true
  init : PySem.W.findIn K (.ref C) "__init__" = some (some (.ref f))
  fn : PySem.W.isFn K (.ref f) = true
  kp : PySem.W.keepIn K (.ref C) = true
end
section
variable {X : Cx} {CX : CXT} {k : Nat} {f C : Addr} {fd : FuncData} {ps ks : List Str} {sp : Sp} {E : XK} {x m : Str} {p pos apos kpos : Pos} {e o : Expr} {es : List Expr} {kws : List Keyword} {te ta : TE} {t tk : TA} {nm : Option Str}
variable {g : List Value → List Value → List Value} {gV : List V → List V → List V}
end
structure FnScope (N P : List Str) (sc : Scope) : Prop where
  kind : sc.kind = .function
  co : sc.isCoroutine = false
  gen : sc.isGenerator = false
  nd : N.Nodup
  pre : N.take P.length = P
  par : ∀ x ∈ P, sc.names.lookup x = some .local ∨ sc.names.lookup x = some .cell
  nofree : ∀ y ∈ sc.names, y.2 ≠ .free
theorem bindL_out {kindOf : Str → Option NameKind} {x : Str} : ∀ {binds : List (Str × Value)} {m : Str → Option Value}, (∀ v, (x, v) ∉ binds) → bindL kindOf binds m x = m x
  | [], _, _ => rfl
  | (n, v) :: r, m, h => by
    unfold bindL
    rw [bindL_out fun w hw => h w (List.mem_cons_of_mem _ hw)]
    split
    · have : x ≠ n := by rintro rfl; exact h v List.mem_cons_self
      simp [this]
    · rfl
theorem bindC_out {kindOf : Str → Option NameKind} {x : Str} : ∀ {binds : List (Str × Value)} {m : Str → Option Value}, (∀ v, (x, v) ∉ binds) → bindC kindOf binds m x = m x
  | [], _, _ => rfl
  | (n, v) :: r, m, h => by
    unfold bindC
    rw [bindC_out fun w hw => h w (List.mem_cons_of_mem _ hw)]
    split
    · rfl
    · have : x ≠ n := by rintro rfl; exact h v List.mem_cons_self
      simp [this]
theorem bindL_get {kindOf : Str → Option NameKind} {x : Str} {v : Value} : ∀ {P : List Str} {vs : List Value} {i : Nat} {m : Str → Option Value}, P.Nodup → P[i]? = some x → vs[i]? = some v → kindOf x = some .local →
    bindL kindOf (P.zip vs) m x = some v
  | [], _, _, _, _, h, _, _ => by simp at h
  | _ :: _, [], _, _, _, _, h, _ => by simp at h
  | p :: P, w :: vs, 0, m, nd, h1, h2, hk => by
    simp at h1 h2; subst h1; subst h2
    show bindL kindOf ((p, w) :: P.zip vs) m p = _
    unfold bindL
    rw [bindL_out fun v hv => (List.nodup_cons.mp nd).1 (List.of_mem_zip hv).1, if_pos hk]
    simp
  | p :: P, w :: vs, i + 1, m, nd, h1, h2, hk => by
    show bindL kindOf ((p, w) :: P.zip vs) m x = _
    unfold bindL
    exact bindL_get (i := i) (List.nodup_cons.mp nd).2 (by simpa using h1) (by simpa using h2) hk
theorem bindC_get {kindOf : Str → Option NameKind} {x : Str} {v : Value} : ∀ {P : List Str} {vs : List Value} {i : Nat} {m : Str → Option Value}, P.Nodup → P[i]? = some x → vs[i]? = some v → kindOf x ≠ some .local →
    bindC kindOf (P.zip vs) m x = some v
  | [], _, _, _, _, h, _, _ => by simp at h
  | _ :: _, [], _, _, _, _, h, _ => by simp at h
  | p :: P, w :: vs, 0, m, nd, h1, h2, hk => by
    simp at h1 h2; subst h1; subst h2
    show bindC kindOf ((p, w) :: P.zip vs) m p = _
    unfold bindC
    rw [bindC_out fun v hv => (List.nodup_cons.mp nd).1 (List.of_mem_zip hv).1, if_neg hk]
    simp
  | p :: P, w :: vs, i + 1, m, nd, h1, h2, hk => by
    show bindC kindOf ((p, w) :: P.zip vs) m x = _
    unfold bindC
    exact bindC_get (i := i) (List.nodup_cons.mp nd).2 (by simpa using h1) (by simpa using h2) hk
def start (N : List Str) (vs : List V) : St := vs.map some ++ List.replicate (N.length - vs.length) none
def cxOf (CX : CXT) (P : Program) (w : World) (K : PySem.W.Frag) (mg : Str → Option Value) (base : Heap) (N : List Str) (qual : Str) (scope : Scope) (f : Addr) (cd : Value) (A : Around) (outer : List Env) (s : Shared) (H : Hp) (E : XK) : Cx where
  prog := P
  w := w
  K := K
  mg := mg
  base := base
  A := A.deeper (envOfC qual scope s.heap.objs.size f cd)
  N := N
  s₀ := s
  H₀ := H
  env := envOfC qual scope s.heap.objs.size f cd
  outer := outer
  stack := envOfC qual scope s.heap.objs.size f cd :: outer
  ex := []
  calm := true
  fn := fun _ => true
  pn := []
  xe := fun e s' => wpAny (model P w) (A.deeper (envOfC qual scope s.heap.objs.size f cd)) (leaving (envOfC qual scope s.heap.objs.size f cd) e) (fun _ s'' => CX outer H s E e s'') (fun e' s'' => CX outer H s E e' s'') s'
theorem cell_has {sc : Scope} {n : Nat} {x : Str} (h : sc.names.lookup x = some .cell) : ∃ c, (cellsFrom n sc.names []).lookup x = some c := by
  have q := PySem.W.cellsFrom_some sc.names n [] (.inl h)
  exact Option.isSome_iff_exists.mp q
theorem inv_start {CX : CXT} {P : Program} {w : World} {K : PySem.W.Frag} {mg : Str → Option Value} {base : Heap} {N ps : List Str} {qual : Str} {scope : Scope} {f : Addr} {cd : Value} {A : Around} {outer : List Env} {s s1 : Shared} {H : Hp} {E : XK} {us : List Value} {vs : List V}
    (S : FnScope N ps scope) (hd : A.handled = none) (e0 : Env0 P w K mg base A outer s H) (hl : vs.length = ps.length) (r : Vals vs us)
    (x : InCallC s s.heap.objs.size (bindL (envOfC qual scope s.heap.objs.size f cd).kindOf (ps.zip us) fun _ => none) (cellsFrom (s.heap.objs.size + 1) scope.names []) (bindC (envOfC qual scope s.heap.objs.size f cd).kindOf (ps.zip us) fun _ => none) s1) :
    Inv (cxOf CX P w K mg base N qual scope f cd A outer s H E) [] (start N vs) H s1 := by
  have hpl : ps.length ≤ N.length := by have := congrArg List.length S.pre; rw [List.length_take] at this; omega
  obtain ⟨h1, tk, rfl, hk⟩ := x.done
  have noA : ∀ b : Addr, b ∉ (cxOf CX P w K mg base N qual scope f cd A outer s H E).ex := fun b z => absurd (show b ∈ ([] : List Addr) from z) (by simp)
  refine ⟨⟨e0.mod, S.kind, rfl, rfl, Nat.le_refl _, fun y z c h1 h2 => ?_, fun y hy => ?_, fun y c _ h => ?_, fun _ => hd, Around.frames_deeper e0.frames, .inr ⟨rfl, rfl⟩, fun b z => absurd z (noA b), e0.bs, e0.bsz, fun b _ _ => noA b, fun b z => absurd z (noA b), e0.funs, e0.frf⟩,
    rfl, e0.bare, Un.kept hk, ⟨_, x.toInCall.ns, fun i y v h1 h2 h3 => ?_⟩, fun y c h => ⟨_, x.cell y c h⟩, e0.hok.fresh (Nat.le_refl _), fun y c h => ?_, fun p hp => absurd (show p ∈ ([] : List (Addr × Obj)) from hp) (by simp), e0.hok.kept hk, ?_⟩
  · exact name_of_addr x.apart (PySem.mem_of_lookup h1) (PySem.mem_of_lookup h2)
  · have hy : scope.names.lookup y = some .cell ∨ scope.names.lookup y = some .free := hy
    rcases hy with hy | hy
    · exact cell_has hy
    · exact absurd rfl (S.nofree _ (PySem.mem_of_lookup hy))
  · exact Nat.le_of_lt (x.above y c (PySem.mem_of_lookup h))
  · have hi : i < vs.length := by
      unfold start at h2
      by_cases hi : i < vs.length
      · exact hi
      · rw [List.getElem?_append_right (by simpa using hi)] at h2
        rw [List.getElem?_replicate] at h2
        split at h2 <;> cases h2
    have ha : vs[i]? = some v := by
      unfold start at h2
      rw [List.getElem?_append_left (by simpa using hi), List.getElem?_map] at h2
      cases e : vs[i]? with
      | none => rw [e] at h2; cases h2
      | some a => rw [e] at h2; cases h2; rfl
    obtain ⟨u, hu, rv⟩ := r.get ha
    have hp : ps[i]? = some y := by
      rw [← S.pre, List.getElem?_take_of_lt (by omega)]; exact h1
    have ndP : ps.Nodup := by rw [← S.pre]; exact S.nd.sublist (List.take_sublist _ _)
    refine ⟨u, rv, ?_⟩
    rcases S.par y (List.mem_of_getElem? hp) with k | k
    · exact .inl ⟨k, bindL_get ndP hp hu k⟩
    · obtain ⟨c, e⟩ := cell_has (n := s.heap.objs.size + 1) k
      refine .inr ⟨.inl k, c, e, ?_⟩
      have q := x.cell y c e
      rw [bindC_get ndP hp hu (by show scope.names.lookup y ≠ _; rw [k]; decide)] at q
      exact q
  · exact e0.hok.fresh (Nat.le_of_lt (x.above y c (PySem.mem_of_lookup h)))
  · unfold start
    show _ = N.length
    rw [List.length_append, List.length_map, List.length_replicate]
    omega
theorem fn_of {CX : CXT} {P : Program} {w : World} {K : PySem.W.Frag} {mg : Str → Option Value} {base : Heap} {k : Nat} {f : Addr} {name qual : Str} {params : Arguments} {body : List Stmt} {scope : Scope} {dV kV doc pm cdv ct oc : Value} {an od : Option Addr}
    {osl : Array (Option Value)} {N ps : List Str} {sp : Sp} (lk : K.lookup f = some ⟨oc, od, .func (PySem.W.fnOf name qual params body scope dV kV doc pm an cdv ct), osl⟩) (hcd : PySem.W.codeIn K cdv qual = true) (S : FnScope N ps scope)
    (len : ∀ vs H Q E, sp vs H Q E → vs.length = ps.length)
    (hbody : ∀ (A : Around) (outer : List Env) (s : Shared) (H : Hp) (vs : List V) (Q : VK) (E : XK), Room k (A.deeper (envOfC qual scope s.heap.objs.size f cdv)) → sp vs H Q E →
      ∃ t, PSs (cxOf CX P w K mg base N qual scope f cdv A outer s H E) body t ∧ t { nx := fun _ H' => Q .non H', rt := Q } (start N vs) H) :
    FnOk P w K mg base CX (k + 1) f (PySem.W.fnOf name qual params body scope dV kV doc pm an cdv ct) ps sp := by
  refine ⟨len, fun A outer s H args us vs Q E hr e0 hb r hsp => ?_⟩
  have hl := len _ _ _ _ hsp
  have KX : K.In s.heap := e0.mod.kin.keeps fun b o e => (e0.bs b o e).1
  have lim : s.heap.NoLimit := e0.mod.nolimit.keeps fun b o e => (e0.bs b o e).1
  have hkind : ∀ y ∈ ps.zip us, scope.names.lookup y.1 = some .local ∨ (scope.names.lookup y.1 = some .cell ∧ ((cellsFrom (s.heap.objs.size + 1) scope.names []).lookup y.1).isSome = true) := fun ⟨n, v⟩ hy => by
    rcases S.par n (List.of_mem_zip hy).1 with q | q
    · exact .inl q
    · exact .inr ⟨q, PySem.W.cellsFrom_some _ _ _ (.inl q)⟩
  refine codeAny_call_function hr.depth (KX _ _ lk) rfl S.co S.gen rfl (PySem.W.codeRec_of KX hcd) (hb _ _ _ _ ?_)
  refine wpAny_newFunctionEnv_cells S.kind hkind fun env he s1 x => ?_
  subst he
  refine ⟨lim.keeps x.toInCall.keep, codeAny_func ?_⟩
  obtain ⟨t, ht, hq⟩ := hbody A outer s H vs Q E (hr.deeper _) hsp
  have I : Inv (cxOf CX P w K mg base N qual scope f cdv A outer s H E) [] (start N vs) H s1 := inv_start S hr.hd e0 hl r x
  refine wpAny_mono (ht [] s1 (start N vs) H _ I hq) (fun fl s' hs => ?_) fun e s' hs => hs
  have fin : ∀ {σ' : St} {H' : Hp} {v : V} {u : Value}, Inv (cxOf CX P w K mg base N qual scope f cdv A outer s H E) [] σ' H' s' → RelV v u → Q v H' → CE outer P w H s Q u s' :=
    fun {σ' H' v u} J rv q => ⟨v, H', J.os, J.bare, J.base, J.hok, rv, q⟩
  cases fl with
  | ret u =>
    obtain ⟨v, σ', H', J, rv, q⟩ := hs
    exact fin J rv q
  | next =>
    obtain ⟨σ', H', J, q⟩ := hs
    exact fin (v := V.non) (u := Value.none) J rfl q
  | brk =>
    obtain ⟨_, _, _, q⟩ := hs
    exact False.elim q
  | cont =>
    obtain ⟨_, _, _, q⟩ := hs
    exact False.elim q
end L2
namespace L2
open PySem PySem.Spec PyProof.Rows
section
variable {X : Cx} {x : Str} {p pos : Pos} {e : Expr} {es : List Expr} {t : TA} {id T : String} {r : List V → Hp → VK → Prop}
def tCB (r : List V → Hp → VK → Prop) (t : TA) : TE := fun σ H Q => t σ H fun vs H1 => r vs H1 Q
theorem pe_callB (hc : CallR X (.builtin id) r) (hg : Gl X x) (hm : X.mg x = none) (hv : bootBuiltins x = some (.builtin id)) (ha : PA X (e :: es) t) (hn : x ≠ "__name__" := by decide) (hdb : (x == ("__debug__" : Str)) = false := by decide)
    (he : starEach (e :: es) X.env = (false, eval e X.env) :: starEach es X.env := by rfl) (hpl : (backTo pos (starEach es X.env)).any (·.1) = false := by rfl) : PE X (.Call (.Name x p) (e :: es) [] pos) (tCB r t) := by
  intro pins s σ H Q I h
  refine wpAny_Call_Name_kw (ld_blt I hg hm hv ?_ hn hdb)
  exact PyProof.Rows.callWith_builtin1 (thn (ha pos pins s σ H _ I h) fun us s1 ⟨vs, H1, I1, r1, q1⟩ => hc pins s1 σ H1 vs us Q I1 r1 q1) he hpl
theorem pe_callTy (hc : CallR X (.type T) r) (hg : Gl X x) (hm : X.mg x = none) (hv : bootBuiltins x = some (.type T)) (ha : PA X (e :: es) t) (hn : x ≠ "__name__" := by decide) (hdb : (x == ("__debug__" : Str)) = false := by decide)
    (he : starEach (e :: es) X.env = (false, eval e X.env) :: starEach es X.env := by rfl) (hpl : (backTo pos (starEach es X.env)).any (·.1) = false := by rfl) : PE X (.Call (.Name x p) (e :: es) [] pos) (tCB r t) := by
  intro pins s σ H Q I h
  refine wpAny_Call_Name_kw (ld_blt I hg hm hv ?_ hn hdb)
  exact PyProof.Rows.callWith_type1 (thn (ha pos pins s σ H _ I h) fun us s1 ⟨vs, H1, I1, r1, q1⟩ => hc pins s1 σ H1 vs us Q I1 r1 q1) he hpl
end
end L2
namespace HT
open PySem PyProof.Rows
section
open PySem.SeqAt
open PySem.AutoSeq1 (wpAny_loadPart')
open PySem.MeetsSeq PySem.MeetsSeq2 PySem.MeetsSeq3
end
section
variable {prog : Program} {w : World} {A : Around} {E : Value → Shared → Prop} {s : Shared}
def sIx (n d : Nat) : Option Int → Nat
  | none => d
  | some v => if v < 0 then (v + (n : Int)).toNat else min v.toNat n
end
end HT
namespace L2
open PySem PySem.Spec PyProof.Rows
abbrev TO := St → Hp → (Option Int → Hp → Prop) → Prop
def PO (X : Cx) (e : Option Expr) (t : TO) : Prop :=
  ∀ (pins : List (Addr × Obj)) (s : Shared) (σ : St) (H : Hp) (Q : Option Int → Hp → Prop), Inv X pins σ H s → t σ H Q →
    wpAny (model X.prog X.w) X.A (evalPart e X.env) (fun u s' => ∃ o H', Inv X pins σ H' s' ∧ IsPart u o ∧ Q o H') X.xe s
def tNoPart : TO := fun _ H Q => Q none H
def tPart (t : TE) : TO := fun σ H Q => t σ H fun x H1 => ∃ i, x = .int i ∧ Q (some i) H1
section
variable {X : Cx} {e : Expr} {te : TE} {lo hi : Option Expr} {tl th : TO} {pos p2 : Pos}
theorem po_none : PO X none tNoPart := by
  intro pins s σ H Q I h
  rw [evalPart_none]
  exact wpAny_pure ⟨none, H, I, .none, h⟩
theorem po_some (h : PE X e te) : PO X (some e) (tPart te) := by
  intro pins s σ H Q I hw
  rw [evalPart_some]
  refine thn (h pins s σ H _ I hw) fun u s1 ⟨x, H1, I1, r1, q1⟩ => ?_
  obtain ⟨i, rfl, q⟩ := q1
  obtain ⟨t, rfl⟩ := r1
  exact ⟨some i, H1, I1, .int i t, q⟩
def SlR (X : Cx) (r : V → Option Int → Option Int → Hp → VK → Prop) : Prop :=
  ∀ (pins : List (Addr × Obj)) (s : Shared) (σ : St) (H : Hp) (x : V) (v vl vu : Value) (lo hi : Option Int) (sl : Addr) (Q : VK), Inv X pins σ H s → RelV x v → s.heap.IsSliceOf sl vl vu .none → IsPart vl lo → IsPart vu hi → r x lo hi H Q →
    ∃ T id, typeLookup (.type T) "__getitem__" = pure (some (.builtin id)) ∧ s.TypeIs v T ∧ wpAny (model X.prog X.w) X.A (getItem v (.ref sl)) (EP X pins σ Q) X.xe s
def tSl (r : V → Option Int → Option Int → Hp → VK → Prop) (te : TE) (tl th : TO) : TE := fun σ H Q => te σ H fun x H1 => tl σ H1 fun l H2 => th σ H2 fun u H3 => r x l u H3 Q
theorem pe_slice {r : V → Option Int → Option Int → Hp → VK → Prop} (hr : SlR X r) (he : PE X e te) (hl : PO X lo tl) (hu : PO X hi th) : PE X (.Subscript e (.Slice lo hi none p2) pos) (tSl r te tl th) := by
  intro pins s σ H Q I h
  refine Subscript_ (thn (he pins s σ H _ I h) fun v s1 ⟨x, H1, I1, r1, q1⟩ => ?_)
  refine wpAny_Slice (thn (hl pins s1 σ H1 _ I1 q1) fun vl s2 ⟨l, H2, I2, pl, q2⟩ => thn (hu pins s2 σ H2 _ I2 q2) fun vu s3 ⟨u, H3, I3, pu, q3⟩ => ?_)
  rw [evalPart_none]
  refine wpAny_pure ?_
  have I4 : Inv X pins σ H3 { s3 with heap := s3.heap.push { cls := .type "slice", data := .fields #[vl, vu, .none] } } := I3.kept (t' := s3.toks) fun b ob q => Heap.get?_push_of_some _ q
  obtain ⟨T, id, hT, ht, hg⟩ := hr pins { s3 with heap := s3.heap.push { cls := .type "slice", data := .fields #[vl, vu, .none] } } σ H3 x v vl vu l u s3.heap.objs.size Q I4 r1 (Heap.IsSliceOf.new ..) pl pu q3
  show wpAny (model X.prog X.w) X.A (subscriptTail e (.Slice lo hi none p2) v (.ref s3.heap.objs.size)) (EP X pins σ Q) X.xe { s3 with heap := s3.heap.push { cls := .type "slice", data := .fields #[vl, vu, .none] } }
  exact tail_any (ops := [.ref s3.heap.objs.size, v]) ht hT hg (by with_unfolding_all rfl)
def cutV (xs : List V) (lo hi : Option Int) : List V := (xs.drop (HT.sIx xs.length 0 lo)).take (HT.sIx xs.length xs.length hi - HT.sIx xs.length 0 lo)
theorem cutV_length (xs : List V) (lo hi : Option Int) : (cutV xs lo hi).length ≤ xs.length := by
  unfold cutV
  rw [List.length_take, List.length_drop]
  omega
def rCatT (K : PySem.W.Frag) : R2 := fun x y H Q => ∃ a b xs ys, x = .ref a ∧ y = .ref b ∧ SqT K H a xs ∧ SqT K H b ys ∧ xs ≠ [] ∧ xs.length + ys.length ≤ sizeLine ∧
  (ys = [] → Q (.ref a) H) ∧ (ys ≠ [] → ∀ p, H p = none → Q (.ref p) (upd H p (.tup (xs ++ ys))))
end
end L2
namespace L2
open PySem PySem.Spec PyProof.Rows
def ixN (n : Nat) (i : Int) : Option Nat := if 0 ≤ i then (if i < n then some i.toNat else none) else if -(n : Int) ≤ i then some (i + n).toNat else none
def atI {α : Type} (xs : List α) (i : Int) : Option α := (ixN xs.length i).bind fun j => xs[j]?
theorem ixN_seq {n : Nat} {i : Int} {j : Nat} (h : ixN n i = some j) : seqIndex? i n = some j ∧ j < n ∧ -(n : Int) ≤ i ∧ i < n := by
  unfold ixN at h
  by_cases h0 : 0 ≤ i
  · rw [if_pos h0] at h
    by_cases h1 : i < n
    · rw [if_pos h1] at h
      have e : i.toNat = j := Option.some.inj h
      exact ⟨by rw [seqIndex_of h0 h1, e], by omega, by omega, h1⟩
    · rw [if_neg h1] at h; cases h
  · rw [if_neg h0] at h
    by_cases h1 : -(n : Int) ≤ i
    · rw [if_pos h1] at h
      have e : (i + n).toNat = j := Option.some.inj h
      exact ⟨by rw [seqIndex_neg (by omega) h1, e], by omega, h1, by omega⟩
    · rw [if_neg h1] at h; cases h
theorem atI_get {α : Type} {xs : List α} {i : Int} {v : α} (h : atI xs i = some v) : ∃ j, seqIndex? i xs.length = some j ∧ xs[j]? = some v ∧ j < xs.length ∧ -(xs.length : Int) ≤ i ∧ i < xs.length := by
  unfold atI at h
  cases e : ixN xs.length i with
  | none => rw [e] at h; cases h
  | some j =>
    rw [e] at h
    obtain ⟨h1, h2, h3, h4⟩ := ixN_seq e
    exact ⟨j, h1, h, h2, h3, h4⟩
theorem atI_nat {α : Type} {xs : List α} {j : Nat} {v : α} (h : xs[j]? = some v) : atI xs (j : Int) = some v := by
  have hj : j < xs.length := (List.getElem?_eq_some_iff.mp h).1
  have e : ixN xs.length (j : Int) = some j := by
    unfold ixN
    rw [if_pos (by omega), if_pos (by omega)]; simp
  unfold atI; rw [e]; exact h
def PlainIx (b : Expr) : Prop := ∀ o i, subscripted b false o i = operate [o, i] (getItem o i)
def IxR (X : Cx) (r : R2) : Prop :=
  ∀ (value slice : Expr) (pins : List (Addr × Obj)) (s : Shared) (σ : St) (H : Hp) (x y : V) (v u : Value) (Q : VK), Inv X pins σ H s → RelV x v → RelV y u → r x y H Q →
    subscripted slice false v u = operate [v, u] (getItem v u) → wpAny (model X.prog X.w) X.A (subscriptTail value slice v u) (EP X pins σ Q) X.xe s
def MtR (X : Cx) (id : String) (r : V → List V → Hp → VK → Prop) : Prop :=
  ∀ (pins : List (Addr × Obj)) (s : Shared) (σ : St) (H : Hp) (x : V) (xs : List V) (v : Value) (us : List Value) (Q : VK), Inv X pins σ H s → RelV x v → Vals xs us → r x xs H Q →
    wpAny (model X.prog X.w) X.A (call (.builtin id) (v :: us)) (EP X pins σ Q) X.xe s
section
variable {X : Cx} {a b : Expr} {ta tb : TE} {pos : Pos}
theorem pe_ix {r : R2} (hr : IxR X r) (ha : PE X a ta) (hb : PE X b tb) (hs : PlainIx b) : PE X (.Subscript a b pos) (tOp r ta tb) := by
  intro pins s σ H Q I h
  exact Subscript_ (binT ha hb I h fun v u s2 x y H2 I2 rx ry q => hr a b pins s2 σ H2 x y v u Q I2 rx ry q (hs _ _))
def rIxL (K : PySem.W.Frag) : R2 := fun x y H Q => ∃ p xs i v, x = .ref p ∧ y = .int i ∧ SqL K H p xs ∧ atI xs i = some v ∧ Q v H
def rIxT (K : PySem.W.Frag) : R2 := fun x y H Q => ∃ p xs i v, x = .ref p ∧ y = .int i ∧ SqT K H p xs ∧ atI xs i = some v ∧ Q v H
def rIxS : R2 := fun x y H Q => ∃ z i c, x = .str z ∧ y = .int i ∧ z.length ≤ sizeLine ∧ atI z.cps.toList i = some c ∧ Q (.str ⟨#[c]⟩) H
theorem ix_list : IxR X (rIxL X.K) := by
  intro value slice pins s σ H x y v u Q I rx ry h hs
  obtain ⟨p, xs, i, z, rfl, rfl, hq, he, q⟩ := h
  cases rx
  obtain ⟨t, rfl⟩ := ry
  obtain ⟨its, r, pl, hz⟩ := I.list hq
  obtain ⟨j, h1, h2, h3, h4, h5⟩ := atI_get he
  obtain ⟨w, ew, rw'⟩ := r.get h2
  have hl := r.length
  have hn := line63
  have fin : EP X pins σ Q w s := ⟨z, H, I, rw', q⟩
  by_cases h0 : 0 ≤ i
  · have hj : i.toNat = j := by
      rw [seqIndex_of h0 h5] at h1
      exact Option.some.inj h1
    exact item_listR pl.isList h0 (by omega) (by rw [hj]; simpa using ew) fin hs
  · have hj : (i + (its.toArray.size : Int)).toNat = j := by
      rw [seqIndex_neg (by omega) h4] at h1
      rw [List.size_toArray, ← hl]
      exact Option.some.inj h1
    exact subscriptTail_builtinR (x := w) pl.isList.typeIs slot_list_getitem.lookup
      (wpAny_getItem_list_neg (Q := fun r s' => r = w ∧ EP X pins σ Q r s') pl.isList (by omega) (by rw [List.size_toArray] <;> omega) (by omega) (by rw [hj]; simpa using ew) ⟨rfl, fin⟩) hs
theorem ix_str : IxR X rIxS := by
  intro value slice pins s σ H x y v u Q I rx ry h hs
  obtain ⟨z, i, c, rfl, rfl, hz, he, q⟩ := h
  obtain ⟨t, rfl⟩ := rx
  obtain ⟨t', rfl⟩ := ry
  obtain ⟨j, h1, h2, h3, h4, h5⟩ := atI_get he
  have hl : z.cps.toList.length = z.length := by simp [Str.length]
  rw [hl] at h1 h4 h5
  have hn := line63
  exact tail_any (typeIs_str s z t) slot_str_getitem.lookup (getItem_str (c := c) (by
    have e1 : decide (i < -(2 ^ 63 : Int)) = false := decide_eq_false (by omega)
    have e2 : decide (i ≥ 2 ^ 63) = false := decide_eq_false (by omega)
    rw [e1, e2, Bool.or_false]) (by rw [h1]; simpa using h2) ⟨.str ⟨#[c]⟩, H, I.tok _, ⟨_, rfl⟩, q⟩) hs
theorem Inv.lst {pins : List (Addr × Obj)} {σ : St} {H : Hp} {s : Shared} {p : Addr} {xs : List V} (I : Inv X pins σ H s) (h : H p = some (.lst xs)) :
    ∃ (its : List Value) (n : Nat), Vals xs its ∧ s.heap.get? p = some { cls := .type "list", data := .seq its.toArray n } ∧ xs.length ≤ sizeLine := by
  obtain ⟨z, its, n, r, e⟩ := I.hok p _ h
  exact ⟨its, n, r, e, z⟩
def rSetL : V → V → V → Hp → (Hp → Prop) → Prop := fun o i v H Q => ∃ p xs k j, o = .ref p ∧ i = .int k ∧ H p = some (.lst xs) ∧ ixN xs.length k = some j ∧ Q (upd H p (.lst (xs.set j v)))
theorem slice_bounds (lo hi : Option Int) (n : Nat) : (sliceBounds lo hi none n).1 = ((HT.sIx n 0 lo : Nat) : Int) ∧ (sliceBounds lo hi none n).2.1 = ((HT.sIx n n hi : Nat) : Int) ∧ (sliceBounds lo hi none n).2.2 = 1 := by
  refine ⟨?_, ?_, rfl⟩
  · cases lo with
    | none => simp [sliceBounds, HT.sIx]
    | some i =>
      simp only [sliceBounds, HT.sIx, Option.getD_none, show (1 : Int) > 0 by decide, if_true]
      by_cases h : i < 0
      · simp only [h, if_true] <;> omega
      · simp only [h, if_false] <;> omega
  · cases hi with
    | none => simp [sliceBounds, HT.sIx]
    | some i =>
      simp only [sliceBounds, HT.sIx, Option.getD_none, show (1 : Int) > 0 by decide, if_true]
      by_cases h : i < 0
      · simp only [h, if_true] <;> omega
      · simp only [h, if_false] <;> omega
theorem slicePick_cut (its : List Value) (lo hi : Option Int) : slicePick its.toArray lo hi none = ((its.drop (HT.sIx its.length 0 lo)).take (HT.sIx its.length its.length hi - HT.sIx its.length 0 lo)).toArray := by
  obtain ⟨h1, h2, h3⟩ := slice_bounds lo hi its.toArray.size
  unfold slicePick
  rw [h1, h2, h3]
  simp only [sliceRange_one, pick_run, List.size_toArray] <;> rfl
def rSlL (K : PySem.W.Frag) : V → Option Int → Option Int → Hp → VK → Prop := fun x lo hi H Q => ∃ a xs, x = .ref a ∧ SqL K H a xs ∧ ∀ p, H p = none → Q (.ref p) (upd H p (.lst (cutV xs lo hi)))
theorem sl_list : SlR X (rSlL X.K) := by
  intro pins s σ H x v vl vu lo hi sl Q I rx hs pl pu h
  obtain ⟨a, xs, rfl, hx, q⟩ := h
  cases rx
  obtain ⟨its, r, ht, hz⟩ := I.list hx
  have hlen := r.length
  refine ⟨"list", _, slot_list_getitem.lookup, ht.isList.typeIs, ?_⟩
  refine wpAny_getItem_list_slice ht.isList hs pl pu .none (by simp) ?_ (by rw [List.size_toArray] <;> omega)
  rw [slicePick_cut, ← hlen]
  refine ⟨.ref s.heap.objs.size, _, I.laid (t' := s.toks) (o := .lst (cutV xs lo hi)) (fun b ob q => Heap.get?_push_of_some _ q) (Nat.le_refl _) ?_, rfl, q _ (I.hok.fresh (Nat.le_refl _))⟩
  exact ⟨Nat.le_trans (cutV_length xs lo hi) hz, _, 0, (r.drop (HT.sIx xs.length 0 lo)).take (HT.sIx xs.length xs.length hi - HT.sIx xs.length 0 lo), Heap.get?_push_size _ rfl⟩
def flatV : V → Bool
  | .non => true
  | .bl _ => true
  | .int _ => true
  | .str _ => true
  | _ => false
def eqV : V → V → Bool
  | .non, .non => true
  | .bl a, .bl b => a == b
  | .bl a, .int b => (if a then 1 else 0) == b
  | .int a, .bl b => a == (if b then 1 else 0)
  | .int a, .int b => a == b
  | .str a, .str b => a == b
  | _, _ => false
def inV (x : V) (xs : List V) : Bool := xs.any fun y => eqV y x
def rIn (K : PySem.W.Frag) (neg : Bool) : R2 := fun x y H Q => ∃ p xs, y = .ref p ∧ (SqL K H p xs ∨ SqT K H p xs) ∧ flatV x = true ∧ xs.all flatV = true ∧ Q (.bl (if neg then !inV x xs else inV x xs)) H
theorem call_len_seq : CallR X (.builtin "len") (fun xs H Q => ∃ p ys, xs = [.ref p] ∧ (SqL X.K H p ys ∨ SqT X.K H p ys) ∧ Q (.int ys.length) H) := by
  intro pins s σ H xs us Q I r h
  obtain ⟨p, ys, rfl, hq, q⟩ := h
  obtain ⟨u, rfl, rx⟩ := vals1 r
  cases rx
  have hn := line63
  rcases hq with hq | hq
  · obtain ⟨its, r', pl, hz⟩ := I.list hq
    have hlen := r'.length
    exact Calls.call_len_list pl.isList (by simp only [List.size_toArray] <;> omega) ⟨.int ys.length, H, I.tok _, ⟨s.toks + 1, by rw [List.size_toArray, hlen]⟩, q⟩
  · obtain ⟨its, r', pl, hz⟩ := I.tuple hq
    have hlen := r'.length
    exact len_tuple pl (by simp only [List.size_toArray] <;> omega) ⟨.int ys.length, H, I.tok _, ⟨s.toks + 1, by rw [List.size_toArray, hlen]⟩, q⟩
theorem call_len_str : CallR X (.builtin "len") (fun xs H Q => ∃ z, xs = [.str z] ∧ z.length ≤ sizeLine ∧ Q (.int z.length) H) := by
  intro pins s σ H xs us Q I r h
  obtain ⟨z, rfl, hz, q⟩ := h
  obtain ⟨u, rfl, t, rfl⟩ := vals1 r
  have hn := line63
  exact len_str (by omega) ⟨.int z.length, H, I.tok _, ⟨_, rfl⟩, q⟩
theorem call_list_of : CallR X (.type "list") (fun xs H Q => ∃ p ys, xs = [.ref p] ∧ (SqL X.K H p ys ∨ SqT X.K H p ys) ∧ ∀ l, H l = none → Q (.ref l) (upd H l (.lst ys))) := by
  intro pins s σ H xs us Q I r h
  obtain ⟨p, ys, rfl, hq, q⟩ := h
  obtain ⟨u, rfl, rx⟩ := vals1 r
  cases rx
  have fin : ∀ (its : List Value), Vals ys its → ys.length ≤ sizeLine → ∀ (h' : Heap) (c' : Nat), (∀ b o', s.heap.get? b = some o' → h'.get? b = some o') →
      h'.get? s.heap.objs.size = some { cls := .type "list", dict := none, data := .seq its.toArray c', slots := #[] } → EP X pins σ Q (.ref s.heap.objs.size) { s with heap := h' } := fun its r' hz h' c' kp e =>
    ⟨.ref s.heap.objs.size, _, I.laid (t' := s.toks) kp (Nat.le_refl _) (show ObjOk X.prog X.w _ h' _ (.lst ys) from ⟨hz, its, c', r', e⟩), rfl, q _ (I.hok.fresh (Nat.le_refl _))⟩
  rcases hq with hq | hq
  · obtain ⟨its, r', pl, hz⟩ := I.list hq
    have hlen := r'.length
    obtain ⟨o, ho, hc, n, hd⟩ := pl.isList
    exact call_list_seq p (.inl rfl) ho hc hd (fun h' c' kp e => fin its r' hz h' c' kp e) (by simp only [List.size_toArray] <;> omega)
  · obtain ⟨its, r', pl, hz⟩ := I.tuple hq
    have hlen := r'.length
    obtain ⟨o, ho, hc, n, hd⟩ := pl
    exact call_list_seq p (.inr rfl) ho hc hd (fun h' c' kp e => fin its r' hz h' c' kp e) (by simp only [List.size_toArray] <;> omega)
theorem call_tuple_of : CallR X (.type "tuple") (fun xs H Q => ∃ p ys, xs = [.ref p] ∧ ((SqL X.K H p ys ∧ ∀ l, H l = none → Q (.ref l) (upd H l (.tup ys))) ∨ (SqT X.K H p ys ∧ Q (.ref p) H))) := by
  intro pins s σ H xs us Q I r h
  obtain ⟨p, ys, rfl, h⟩ := h
  obtain ⟨u, rfl, rx⟩ := vals1 r
  cases rx
  rcases h with ⟨hq, q⟩ | ⟨hq, q⟩
  · obtain ⟨its, r', pl, hz⟩ := I.list hq
    have hlen := r'.length
    refine call_tuple_list pl.isList (fun h' kp => ?_) (by simp only [List.size_toArray] <;> omega)
    have I1 : Inv X pins σ H { s with heap := h' } := I.kept (t' := s.toks) kp
    have I2 : Inv X pins σ (upd H h'.objs.size (.tup ys)) { s with heap := h'.push { cls := .type "tuple", data := .seq its.toArray } } :=
      I1.laid (t' := s.toks) (fun b o e => Heap.get?_push_of_some _ e) (Nat.le_refl _) (show ObjOk X.prog X.w _ _ _ (.tup ys) from ⟨hz, its, r', IsTup.new _ _⟩)
    exact ⟨.ref h'.objs.size, _, I2, rfl, q _ (I1.hok.fresh (Nat.le_refl _))⟩
  · obtain ⟨its, r', pl, hz⟩ := I.tuple hq
    exact call_tuple_same pl ⟨.ref p, H, I, rfl, q⟩
def tyV (K : PySem.W.Frag) (T : String) (x : V) (H : Hp) : Prop := match x with
  | .str _ => T = "str"
  | .int _ => T = "int"
  | .ref p => (T = "list" ∧ ∃ xs, SqL K H p xs) ∨ (T = "tuple" ∧ ∃ o, K.lookup p = some o ∧ o.cls = .type "tuple" ∧ o.dict = none) ∨
      (T = "dict" ∧ ((∃ kvs, H p = some (.dK kvs)) ∨ ∃ kvs, H p = some (.dT kvs))) ∨ (T = "set" ∧ ∃ S n, H p = some (.set S n))
  | _ => False
theorem tyV_is {pins : List (Addr × Obj)} {σ : St} {H : Hp} {s : Shared} {T : String} {x : V} {v : Value} (I : Inv X pins σ H s) (r : RelV x v) (ty : tyV X.K T x H) :
    s.TypeIs v T ∧ ∀ a, v = .ref a → ∃ ob, s.heap.get? a = some ob ∧ ob.dict = none := by
  cases x with
  | str z =>
    obtain ⟨t, rfl⟩ := r
    cases (show T = "str" from ty)
    exact ⟨typeIs_str s z t, fun _ e => nomatch e⟩
  | int i =>
    obtain ⟨t, rfl⟩ := r
    cases (show T = "int" from ty)
    exact ⟨typeIs_int s i t, fun _ e => nomatch e⟩
  | ref p =>
    cases r
    rcases ty with ⟨rfl, xs, hq⟩ | ⟨rfl, o, hk, hc, hd⟩ | ⟨rfl, hk⟩ | ⟨rfl, S, n, hk⟩
    · obtain ⟨its, _, pl, _⟩ := I.list hq
      refine ⟨pl.isList.typeIs, fun a e => ?_⟩
      cases e
      obtain ⟨o, n, e, c, hd, _⟩ := pl
      exact ⟨o, e, hd⟩
    · refine ⟨⟨o, I.kIn p o hk, hc⟩, fun a e => ?_⟩
      cases e
      exact ⟨o, I.kIn _ o hk, hd⟩
    · have z : ∃ o, s.heap.get? p = some o ∧ o.ExactDict := by
        rcases hk with ⟨kvs, hk⟩ | ⟨kvs, hk⟩
        · obtain ⟨_, _, _, _, o, _, _, e, ex, _⟩ := I.hok p _ hk
          exact ⟨o, e, ex⟩
        · obtain ⟨_, _, _, _, o, _, _, e, ex, _⟩ := I.hok p _ hk
          exact ⟨o, e, ex⟩
      obtain ⟨o, e, ex⟩ := z
      refine ⟨⟨o, e, ex.1⟩, fun a e2 => ?_⟩
      cases e2
      exact ⟨o, e, ex.2.1⟩
    · obtain ⟨o, _, _, _, e, ex, _⟩ := I.hok p _ hk
      refine ⟨⟨o, e, ex.1⟩, fun a e2 => ?_⟩
      cases e2
      exact ⟨o, e, ex.2.1⟩
  | _ => exact False.elim ty
def tBM0 (K : PySem.W.Frag) (T : String) (r : V → List V → Hp → VK → Prop) (to : TE) : TE := fun σ H Q => to σ H fun x H1 => tyV K T x H1 ∧ r x [] H1 Q
def tBM (K : PySem.W.Frag) (T : String) (r : V → List V → Hp → VK → Prop) (to : TE) (t : TA) : TE := fun σ H Q => to σ H fun x H1 => tyV K T x H1 ∧ t σ H1 fun xs H2 => r x xs H2 Q
variable {o e : Expr} {es : List Expr} {to : TE} {t : TA} {name : Str} {apos cpos : Pos} {T id : String} {r : V → List V → Hp → VK → Prop}
theorem pe_bm (pa : PlainAttrs T) (slot : Slot T name id) (hty : typeOf (.builtin id) = pure (.type "method_descriptor")) (hm : MtR X id r) (ho : PE X o to) (ha : PA X (e :: es) t)
    (hbase : attributeBase o name X.env (eval o X.env) = eval o X.env := by rfl)
    (hfew : ((backTo cpos (starEach (e :: es) X.env)).all (fun x => !x.1) && (backToKw cpos (keywordEach [] X.env)).all (fun x => x.1.isSome)
      && decide ((e :: es).length + ([] : List Keyword).length + (if ([] : List Keyword).isEmpty then 0 else 1) < 30)) = true := by rfl)
    (hline : (apos.endLine == cpos.line) = true := by rfl) (hs : starEach (e :: es) X.env = (false, eval e X.env) :: starEach es X.env := by rfl) (hplain : (backTo cpos (starEach es X.env)).any (·.1) = false := by rfl) :
    PE X (.Call (.Attribute o name apos) (e :: es) [] cpos) (tBM X.K T r to t) := by
  intro pins s σ H Q I h
  refine wpAny_Call_method_late hbase hfew hline rfl (thn (ho pins s σ H _ I h) fun v s1 ⟨x, H1, I1, r1, ty, q1⟩ => ?_)
  obtain ⟨h1, h2⟩ := tyV_is I1 r1 ty
  refine ⟨T, id, pa, slot, hty, h1, h2, ?_⟩
  have hA := ha cpos pins s1 σ H1 _ I1 q1
  rw [hs] at hA ⊢
  refine Calls.callWith_builtin (by show (false || (backTo cpos (starEach es X.env)).any (·.1)) = false; rw [hplain] <;> rfl) (Calls.evalArgs_plain ?_)
  exact thn hA fun us s2 ⟨vs, H2, I2, r2, q2⟩ => hm pins s2 σ H2 x vs v us Q I2 r1 r2 q2
end
end L2
namespace L2
open PySem PySem.Spec PyProof.Rows
def MtM (X : Cx) (id : String) (r : V → List V → Hp → VK → Prop) : Prop :=
  ∀ (pins : List (Addr × Obj)) (s : Shared) (σ : St) (H : Hp) (x : V) (xs : List V) (v : Value) (us : List Value) (Q : VK), Inv X pins σ H s → RelV x v → Vals xs us → r x xs H Q →
    wpAny (model X.prog X.w) X.A (call (.builtin id) (v :: us)) (EP X pins σ Q) X.xe s
theorem Vals.one : ∀ {x : V} {us : List Value}, Vals [x] us → ∃ u, us = [u] ∧ RelV x u
  | _, _, .cons r .nil => ⟨_, rfl, r⟩
theorem Vals.zero : ∀ {us : List Value}, Vals [] us → us = []
  | _, .nil => rfl
theorem Vals.dropLast {xs : List V} {us : List Value} (h : Vals xs us) : Vals xs.dropLast us.dropLast := by
  induction h with
  | nil => exact .nil
  | cons r t ih =>
    cases t with
    | nil => exact .nil
    | cons q t' => exact .cons r ih
theorem Vals.eraseIdx : ∀ {xs : List V} {us : List Value} (i : Nat), Vals xs us → Vals (xs.eraseIdx i) (us.eraseIdx i)
  | _, _, _, .nil => .nil
  | _, _, 0, .cons _ t => t
  | _, _, i + 1, .cons r t => .cons r (Vals.eraseIdx i t)
theorem Vals.reverse {xs : List V} {us : List Value} (h : Vals xs us) : Vals xs.reverse us.reverse := by
  induction h with
  | nil => exact .nil
  | cons r t ih => rw [List.reverse_cons, List.reverse_cons]; exact Vals.append ih (.cons r .nil)
theorem Vals.rep {xs : List V} {us : List Value} (h : Vals xs us) : ∀ k : Nat, Vals (List.replicate k xs).flatten (List.replicate k us).flatten
  | 0 => .nil
  | k + 1 => by
    rw [List.replicate_succ, List.replicate_succ, List.flatten_cons, List.flatten_cons]
    exact Vals.append h (Vals.rep h k)
theorem foldl_rep (its : List Value) : ∀ (k : Nat) (acc : List Value),
    List.foldl (fun x1 x2 => x1 ++ x2) acc.toArray (List.replicate k its.toArray) = (acc ++ (List.replicate k its).flatten).toArray
  | 0, acc => by simp
  | k + 1, acc => by
    have e : acc.toArray ++ its.toArray = (acc ++ its).toArray := by simp
    have e2 : (acc ++ its) ++ (List.replicate k its).flatten = acc ++ (List.replicate (k + 1) its).flatten := by
      rw [List.replicate_succ, List.flatten_cons, List.append_assoc]
    rw [← e2, ← foldl_rep its k (acc ++ its), ← e, List.replicate_succ, List.foldl_cons]
section
variable {X : Cx} {pins : List (Addr × Obj)} {σ : St} {H : Hp} {s : Shared} {l b : Addr} {xs ys zs : List V}
theorem Inv.lset {its its' : List Value} {n : Nat} {f : Array Value → Array Value} {t' : Nat} (I : Inv X pins σ H s) (hH : H l = some (.lst xs))
    (e : s.heap.get? l = some { cls := .type "list", data := .seq its.toArray n }) (hf : f its.toArray = its'.toArray) (hv : Vals ys its') (hz : ys.length ≤ sizeLine) :
    Inv X pins σ (upd H l (.lst ys)) { s with heap := s.heap.update l (Obj.mapSeq f), toks := t' } := by
  have q := PySem.IsL.update e f
  rw [hf] at q
  refine I.write (x := l) (e := l) (by rw [hH]; exact trivial) (.inl rfl) (fun b' u hb hu => (Heap.get?_update_other s.heap (Obj.mapSeq f) (Ne.symm hb)).trans hu) ⟨_, q⟩ ?_
  exact ⟨hz, its', _, hv, q⟩
theorem Inv.lnew {its : List Value} {t' : Nat} (I : Inv X pins σ H s) (hv : Vals ys its) (hz : ys.length ≤ sizeLine) :
    Inv X pins σ (upd H s.heap.objs.size (.lst ys)) { s with heap := s.heap.push { cls := .type "list", data := .seq its.toArray }, toks := t' } :=
  I.laid (fun _ _ q => Heap.get?_push_of_some _ q) (Nat.le_refl _) ⟨hz, its, 0, hv, Heap.get?_push_size _ rfl⟩
theorem Inv.fresh (I : Inv X pins σ H s) : H s.heap.objs.size = none := I.hok.fresh (Nat.le_refl _)
theorem Inv.lstM (I : Inv X pins σ H s) (hH : H l = some (.lst xs)) : xs.length ≤ sizeLine ∧ ∃ (its : List Value) (n : Nat), Vals xs its ∧ xs.length = its.length ∧ s.heap.get? l = some { cls := .type "list", data := .seq its.toArray n } := by
  obtain ⟨z, its, n, r, e⟩ := I.hok l _ hH
  exact ⟨z, its, n, r, r.length, e⟩
theorem notLongL {n : Nat} (h : n ≤ sizeLine) : Builtin.List.listTooLong n = false := by
  unfold Builtin.List.listTooLong
  exact decide_eq_false (by omega)
end
section
variable {X : Cx}
def rAppend : V → List V → Hp → VK → Prop := fun x vs H Q => ∃ l xs y, x = .ref l ∧ vs = [y] ∧ H l = some (.lst xs) ∧ xs.length < sizeLine ∧ Q .non (upd H l (.lst (xs ++ [y])))
theorem mt_append : MtM X "list.append" rAppend := by
  intro pins s σ H x vs v us Q I rx rv h
  obtain ⟨l, xs, y, rfl, rfl, hH, hz, q⟩ := h
  cases rx
  obtain ⟨u, rfl, ru⟩ := rv.one
  obtain ⟨z, its, n, r, hl, e⟩ := I.lstM hH
  refine call_meets F.slot_list_append ⟨_, e, rfl⟩ F.entry_list_append (F.args_list_append_2 _ _) (PySem.list_append l its.toArray n u (by rw [List.size_toArray]; omega)) ⟨e, ?_⟩
  refine ⟨.non, _, I.lset (its' := its ++ [u]) hH e (by simp) (r.append (.cons ru .nil)) ?_, rfl, q⟩
  rw [List.length_append, List.length_singleton]
  omega
def rPop : V → List V → Hp → VK → Prop := fun x vs H Q => ∃ l xs y, x = .ref l ∧ vs = [] ∧ H l = some (.lst xs) ∧ xs[xs.length - 1]? = some y ∧ Q y (upd H l (.lst xs.dropLast))
def rPopAt : V → List V → Hp → VK → Prop := fun x vs H Q => ∃ l xs i k y, x = .ref l ∧ vs = [.int i] ∧ H l = some (.lst xs) ∧ -(2 ^ 63) ≤ i ∧ i < 2 ^ 63 ∧ seqIndex? i xs.length = some k ∧ xs[k]? = some y ∧ Q y (upd H l (.lst (xs.eraseIdx k)))
def rCat : R2 := fun x y H Q => ∃ l b xs zs, x = .ref l ∧ y = .ref b ∧ H l = some (.lst xs) ∧ H b = some (.lst zs) ∧ xs.length + zs.length ≤ sizeLine ∧ ∀ p, H p = none → Q (.ref p) (upd H p (.lst (xs ++ zs)))
theorem op_cat : OpR X (binaryOp .Add) rCat := by
  intro pins s σ H x y v u Q I rx ry h
  obtain ⟨l, b, xs, zs, rfl, rfl, hH, hB, hz, q⟩ := h
  cases rx
  cases ry
  obtain ⟨z, its, n, r, hl, e⟩ := I.lstM hH
  obtain ⟨z2, its2, n2, r2, hl2, e2⟩ := I.lstM hB
  refine PySem.P.add_list e e2 ?_ (by rw [List.size_toArray, List.size_toArray]; omega)
  have ea : its.toArray ++ its2.toArray = (its ++ its2).toArray := by simp
  rw [ea]
  exact ⟨.ref _, _, I.lnew (t' := s.toks) (r.append r2) (by rw [List.length_append]; omega), rfl, q _ I.fresh⟩
def rRep : R2 := fun x y H Q => ∃ l k xs, x = .ref l ∧ y = .int k ∧ H l = some (.lst xs) ∧ -(2 ^ 63) ≤ k ∧ k < 2 ^ 63 ∧ xs.length * k.toNat ≤ sizeLine ∧
  ∀ p, H p = none → Q (.ref p) (upd H p (.lst (List.replicate k.toNat xs).flatten))
theorem len_rep {α : Type} (xs : List α) (k : Nat) : (List.replicate k xs).flatten.length = k * xs.length := by
  induction k with
  | zero => simp
  | succ k ih => rw [List.replicate_succ, List.flatten_cons, List.length_append, ih, Nat.succ_mul, Nat.add_comm]
theorem op_rep : OpR X (binaryOp .Mult) rRep := by
  intro pins s σ H x y v u Q I rx ry h
  obtain ⟨l, k, xs, rfl, rfl, hH, h1, h2, hz, q⟩ := h
  cases rx
  obtain ⟨t, rfl⟩ := ry
  obtain ⟨z, its, n, r, hl, e⟩ := I.lstM hH
  have hlen : its.toArray.size * k.toNat ≤ sizeLine := by rw [List.size_toArray, ← hl]; exact hz
  have hcap : ¬ its.toArray.size * k.toNat > (2 ^ 63 - 1) / 8 := by
    have : (sizeLine : Nat) ≤ (2 ^ 63 - 1) / 8 := by decide
    omega
  have hfit : ¬ (!Builtin.List.listFitsIndex k) = true := by
    rw [fitsIndex_both h1 h2]
    exact Bool.false_ne_true
  have hlong : ¬ Builtin.List.listTooLong (its.toArray.size * k.toNat) = true := by
    rw [notLongL hlen]
    exact Bool.false_ne_true
  have hnew : List.foldl (fun x1 x2 => x1 ++ x2) #[] (List.replicate (if its.toArray.isEmpty = true then 0 else k.toNat) its.toArray) = (List.replicate k.toNat its).flatten.toArray := by
    have f0 : ∀ m : Nat, List.foldl (fun x1 x2 => x1 ++ x2) #[] (List.replicate m its.toArray) = (List.replicate m its).flatten.toArray := fun m => by
      have := foldl_rep its m []
      rw [List.nil_append] at this
      exact this
    rw [f0]
    cases its with
    | nil => simp
    | cons a r' => rw [if_neg (by simp)]
  refine wpAny_binaryOp_repeat_ref (T := "list") (U := "int") (by decide) ⟨_, e, rfl⟩ (fun s' => typeIs_int s' k t) noFill_list_mul F.fills_int_mul F.slot_int_rmul repeat_list F.slot_int_index.lookup
    (call_meets F.slot_int_rmul (typeIs_int s k t) F.entry_int_rmul (F.args_int_rmul_2 _ _) (int___rmul___int_list k t l its.toArray n)
      ⟨e, rfl, ⟨_, e, rfl⟩, call_meets F.slot_list_mul ⟨_, e, rfl⟩ F.entry_list_mul (F.args_list_mul_2 _ _) (AutoListH.list___mul___list_int_3 l its.toArray n k t hfit hcap hlong) ⟨e, ?_⟩⟩)
  rw [hnew]
  exact ⟨.ref _, _, I.lnew (t' := s.toks) (r.rep k.toNat) (by rw [len_rep, Nat.mul_comm]; exact hz), rfl, q _ I.fresh⟩
end
section
variable {prog : Program} {w : World} {A : Around} {E : Value → Shared → Prop} {s : Shared}
end
section
variable {X : Cx}
end
end L2
namespace Att
open PySem PySem.W PySem.Calls PyProof.Rows
theorem ints_of_wellAll {P : Params} {h : Heap} : ∀ (ns : List Int) (vs : List Value), WellAll P h vs (ns.map WData.int) → IntsAre vs ns := by
  intro ns
  induction ns with
  | nil =>
    intro vs w
    rw [List.map_nil] at w
    cases w
    exact .nil
  | cons n ns ih =>
    intro vs w
    rw [List.map_cons] at w
    cases w with
    | cons a b =>
      cases a
      exact .cons _ _ (ih _ b)
theorem script_of {l : OpenLaw} {n : Nat} (hn : l.most = some n) {P : Params} {h : Heap} {args : List WData} {vals : List Value}
    (hpre : l.row.toRowW.claim.pre args = true) (hwl : WellAll P h vals args) :
    ∃ a vs ns, vals = [Value.ref a] ∧ args = [WData.list (ns.map WData.int)] ∧ h.get? a = some { cls := .type "list", data := .seq vs.toArray } ∧ IntsAre vs ns ∧ ns.length ≤ n := by
  have hsh : WShape.hasAll [] args [.list .int] = true := (pre_splitW hpre).1
  have hc : l.pre.holds [] { args := args } = true := (pre_splitW hpre).2
  obtain ⟨d, r, rfl, h1, h2⟩ := hasAllW_cons hsh
  obtain rfl := hasAllW_nil h2
  obtain ⟨xs, rfl, h3⟩ := hasW_list h1
  obtain ⟨ns, rfl⟩ := items_int h3
  have hlen : ns.length ≤ n := by
    unfold OpenLaw.pre at hc
    have h4 : (WTm.not (.lt (.lit (.int (n : Int))) (.len (.arg 0)))).holds [] { args := [.list (ns.map .int)] } = true := by
      have h4 := (holds_andW hc).1
      rw [hn] at h4
      exact h4
    have h5 := condW_of h4 (w_not (w_lt w_lit (w_len_list (w_arg rfl))))
    rw [List.length_map] at h5
    refine Nat.le_of_not_lt fun q => ?_
    have q' : (n : Int) < ((ns.length : Nat) : Int) := by omega
    first
      | (rw [decide_eq_true q'] at h5; exact absurd h5 (by decide))
      | (simp at h5; omega)
  cases hwl with
  | cons w1 w2 =>
    cases w2
    cases w1 with
    | list ho hall => exact ⟨_, _, ns, rfl, rfl, ho, ints_of_wellAll ns _ hall, hlen⟩
theorem post_true (l : OpenLaw) (args : List WData) : l.row.toRowW.claim.post args (.bool true) args = true :=
  postW_of (r := l.row.toRowW) (X := (true == true))
    (show WShape.has [] (.bool true) .bool = true by first | rfl | decide | simp [WShape.has, WShape.arms, WShape.armsAll])
    (show (WTm.eq .res (.lit (.bool true))).value [] { args := args, res := some (.bool true), after := args } = some (.bool (true == true)) from w_eq_bool (w_res rfl) w_lit) rfl
theorem attach_call {l : OpenLaw} {n : Nat} {q : Program} {loose : List Str} {XP : (Str → Option Value) → Heap → Prop} {YP : World → Heap → Prop} {d : DefRec}
    (hn : l.most = some n) (hdf : d.params.defaults = [])
    (call : ∀ (w : World) (s₀ s₁ : Shared) (mg mb : Str → Option Value) (fa : Addr) (o : Obj) (pm cd doc : Value) (a : Addr) (vs : List Value) (ns : List Int),
      Ground q loose [] XP w s₀ mg mb s₁.heap → YP w s₁.heap →
      s₁.heap.get? fa = some o → o.data = .func (docDef d.name d.params d.body d.scope pm cd doc) → s₁.heap.CodeRec cd d.name → mg d.name = some (.ref fa) →
      s₁.heap.get? a = some { cls := .type "list", data := .seq vs.toArray } → IntsAre vs ns → ns.length ≤ n → s₁.gens = #[] →
      codeAny (model l.prog w) callerA (.call (.ref fa) ⟨[.ref a], []⟩) (fun r s' => r = .ok (.ret (.bool true)) ∧ OldK s₁.heap s'.heap ∧ s'.os = s₁.os ∧ AllBare s'.gens) s₁) :
    WalkO q loose XP YP l.row.toRowW d [] (fun f vs => PySem.call f vs) := by
  intro w s₀ s₁ mg mb G Y fa o pm cd doc dV kV ho hd hcd hD hmg hg args vals as hpre hlay hrd hwl hlo
  obtain rfl : dV = .none := Dflts.none hD hdf
  obtain rfl : kV = .none := Dflts.noKw hD
  obtain ⟨a, vs, ns, rfl, rfl, hobj, hints, hlen⟩ := script_of hn hpre hwl
  refine enter_call (codeAny_mono (call w s₀ s₁ mg mb fa o pm cd doc a vs ns G Y ho (fd_plain hd) hcd hmg hobj hints hlen hg) fun r s' hq => ?_)
  obtain ⟨rfl, h2, h3, h4⟩ := hq
  exact ⟨.inl ⟨.bool true, .bool true, [], rfl, fun _ => rfl, .bool true, post_true l _, fun _ => ⟨List.Pairwise.nil, fun _ hm => (nomatch hm)⟩⟩, h2, h3, h4⟩
section
variable {prog : Program} {w : World} {A : Around} {E : Value → Shared → Prop} {s : Shared} {K : Frag}
end
end Att
namespace L2
open PySem PySem.Spec PyProof.Rows
theorem vals_ints : ∀ {vs : List Value} {ns : List Int}, IntsAre vs ns → Vals (ns.map V.int) vs
  | _, _, .nil => .nil
  | _, _, .cons n t h => .cons ⟨t, rfl⟩ (vals_ints h)
def Only (H : Hp) : Prop := ∀ b, H b = none ∨ ∃ o xs, H b = some (.frz o (.lst xs))
theorem law_call {P : Program} {w : World} {K : PySem.W.Frag} {mg mb : Str → Option Value} {CX : CXT} {k : Nat} {fa a : Addr} {fd : FuncData} {x : Str} {sp : Sp} {s₁ : Shared} {vs : List Value} {ns : List Int}
    (KX : K.In s₁.heap) (hns : s₁.heap.Ns mainGlobals mg) (hb : s₁.heap.Ns builtinsNs mb) (hbb : ∀ x : Str, x ≠ "__name__" → mb x = bootBuiltins x) (hlim : s₁.heap.NoLimit) (hg : s₁.gens = #[])
    (ha : s₁.heap.get? a = some { cls := .type "list", data := .seq vs.toArray }) (hi : IntsAre vs ns) (hl : ns.length ≤ sizeLine) (hr : Room k callerA)
    (F : ∀ base : Heap, K.In base → base.Ns mainGlobals mg → FnOk P w K mg base CX k fa fd [x] sp) (hbind : ∀ (s : Shared) (u : Value), BindsTo s fd ⟨[u], []⟩ [(x, u)])
    (hsp : ∀ H : Hp, Only H → SqL K H a (ns.map V.int) → sp [.ref a] H (fun v _ => v = .bl true) fun _ _ _ => False)
    (hCX : ∀ H e s', CX [] H s₁ (fun _ _ _ => False) e s' → False) :
    codeAny (model P w) callerA (.call (.ref fa) ⟨[.ref a], []⟩) (fun r s' => r = .ok (.ret (.bool true)) ∧ OldK s₁.heap s'.heap ∧ s'.os = s₁.os ∧ AllBare s'.gens) s₁ := by
  have rv := vals_ints hi
  have lenV := hi.length
  have core : ∀ H : Hp, Only H → SqL K H a (ns.map V.int) → HOk P w H s₁.heap → (∀ b, H b ≠ none → b = a) → (H a ≠ none → K.lookup a = none) →
      codeAny (model P w) callerA (.call (.ref fa) ⟨[.ref a], []⟩) (fun r s' => r = .ok (.ret (.bool true)) ∧ OldK s₁.heap s'.heap ∧ s'.os = s₁.os ∧ AllBare s'.gens) s₁ := by
    intro H hO hS hok hA hK
    have base_of : ∀ {b : Addr} {o : Obj}, s₁.heap.get? b = some o → H b = none → (hidT s₁.heap H).get? b = some o := fun e n => hidT_get e n
    have noA : ∀ {b : Addr} {o : Obj} {es : Array DictEntry} {ep : Nat}, s₁.heap.get? b = some o → o.data = .dict es ep → H b = none := fun {b o es ep} e d => by
      cases q : H b with
      | none => rfl
      | some u =>
        have e' : b = a := hA b (by rw [q]; simp)
        subst e'
        rw [ha] at e; cases e
        have d' : Data.seq vs.toArray _ = Data.dict es ep := d
        cases d'
    have nsK : ∀ {b : Addr} {m : Str → Option Value}, s₁.heap.Ns b m → (hidT s₁.heap H).Ns b m := fun {b m} ⟨o, es, ep, e, d, r⟩ => ⟨o, es, ep, base_of e (noA e d), d, r⟩
    have hKb : K.In (hidT s₁.heap H) := fun b o e => base_of (KX b o e) (by
      cases q : H b with
      | none => rfl
      | some u =>
        have e' : b = a := hA b (by rw [q]; simp)
        subst e'
        rw [hK (by rw [q]; simp)] at e; cases e)
    have hM : Mod K mg (hidT s₁.heap H) := ⟨hKb, nsK hns, ⟨mb, nsK hb, hbb⟩, let ⟨mc, h1, h2⟩ := hlim; ⟨mc, nsK h1, h2⟩⟩
    have e0 : Env0 P w K mg (hidT s₁.heap H) callerA [] s₁ H := ⟨rfl, hM, fun b o e => of_hidT e, Nat.le_of_eq (hidT_size _ _), trivial, fun b hb => absurd (show b ∈ ([] : List Addr) from hb) (by simp), hok, .of_eq hg⟩
    refine codeAny_mono ((F _ hKb (nsK hns)).run callerA [] s₁ H ⟨[.ref a], []⟩ [.ref a] [.ref a] _ _ hr e0 (hbind s₁ (.ref a)) (.cons rfl .nil) (hsp H hO hS)) fun r s' h => ?_
    cases r with
    | error e => exact (hCX H e s' h).elim
    | ok fl =>
      cases fl with
      | next => exact False.elim h
      | brk => exact False.elim h
      | cont => exact False.elim h
      | ret u =>
        obtain ⟨v, H', os, bare, un, hok', r', q⟩ := h
        have q' : v = .bl true := q
        subst q'
        obtain rfl : u = Value.bool true := r'
        refine ⟨rfl, OldK.of_keep fun b o e => ?_, os, bare⟩
        cases q : H b with
        | none => exact un.keep b o e q (by intro z; exact absurd (show b ∈ ([] : List Addr) from z) (by simp)) (by simp)
        | some u =>
          rcases hO b with z | ⟨ob, xs, z⟩
          · rw [q] at z; cases z
          · have z2 := un.frzs b ob _ z
            obtain ⟨e1, _⟩ := hok b _ z
            obtain ⟨e2, _⟩ := hok' b _ z2
            rw [e] at e1; cases e1
            exact e2
  cases hk : K.lookup a with
  | some o =>
    have e := KX a o hk
    rw [ha] at e
    cases e
    refine core (fun _ => none) (fun _ => .inl rfl) (.inr ⟨_, vs.toArray, _, hk, rfl, rfl, rfl, by rw [List.size_toArray, lenV]; exact hl, by simpa using rv⟩) (fun b u z => by have z' : (none : Option HO) = some u := z; cases z') (fun b z => absurd rfl z) fun z => absurd rfl z
  | none =>
    refine core (fun b => if b = a then some (.frz { cls := .type "list", data := .seq vs.toArray } (.lst (ns.map V.int))) else none) (fun b => ?_) (.inl (.inr ⟨{ cls := .type "list", data := .seq vs.toArray }, if_pos rfl⟩)) (fun b u z => ?_) (fun b z => ?_) fun _ => hk
    · by_cases hb : b = a
      · exact .inr ⟨_, _, if_pos hb⟩
      · exact .inl (if_neg hb)
    · by_cases hb : b = a
      · have z' := (if_pos hb).symm.trans z
        cases z'
        subst hb
        exact ⟨ha, by rw [List.length_map]; exact hl, vs, _, rv, ha⟩
      · have z' := (if_neg hb).symm.trans z
        cases z'
    · by_cases hb : b = a
      · exact hb
      · exact absurd (if_neg hb) z
end L2
namespace L2
open PySem PySem.Spec PyProof.Rows
theorem walk_of {l : PySem.W.OpenLaw} {n k : Nat} {q : Program} {loose : List Str} {XP : (Str → Option Value) → Heap → Prop} {YP : World → Heap → Prop} {d : DefRec} {K : Params → PySem.W.Frag} {CX : World → CXT} {sp : World → Sp} {x : Str}
    (hn : l.most = some n) (hn2 : n ≤ sizeLine) (hdf : d.params.defaults = []) (hr : Room k callerA)
    (hY : ∀ (w : World) (h : Heap), YP w h → (K w.params).In h)
    (F : ∀ (w : World) (mg : Str → Option Value) (fa : Addr) (h : Heap), (K w.params).In h → h.Ns mainGlobals mg → mg d.name = some (.ref fa) →
      ∃ fd : FuncData, (∀ (s : Shared) (u : Value), BindsTo s fd ⟨[u], []⟩ [(x, u)]) ∧
        ∀ base : Heap, (K w.params).In base → base.Ns mainGlobals mg → FnOk l.prog w (K w.params) mg base (CX w) k fa fd [x] (sp w))
    (hsp : ∀ (w : World) (H : Hp) (a : Addr) (ns : List Int), ns.length ≤ n → Only H → SqL (K w.params) H a (ns.map V.int) → sp w [.ref a] H (fun v _ => v = .bl true) fun _ _ _ => False)
    (hCX : ∀ (w : World) (H : Hp) (s : Shared) (e : Value) (s' : Shared), CX w [] H s (fun _ _ _ => False) e s' → False) :
    PySem.W.WalkO q loose XP YP l.row.toRowW d [] (fun f vs => PySem.call f vs) := by
  refine Att.attach_call hn hdf fun w s₀ s₁ mg mb fa o pm cd doc a vs ns G Y ho hd hcd hmg hobj hints hlen hg => ?_
  have KX := hY w _ Y
  obtain ⟨fd, hb, hF⟩ := F w mg fa _ KX G.T.g hmg
  exact law_call KX G.T.g G.T.b G.T.builtins G.T.nolimit hg hobj hints (Nat.le_trans hlen hn2) hr hF hb (fun H hO hS => hsp w H a ns hlen hO hS) fun H e s' => hCX w H s₁ e s'
end L2
namespace L2
open PySem PySem.Spec PyProof.Rows
def inClass (s : Stmt) (j : Nat) : Stmt := match s with
  | .ClassDef _ _ _ body _ _ _ _ _ _ _ => body.getD j (.Pass ⟨0, 0, 0, 0⟩)
  | _ => .Pass ⟨0, 0, 0, 0⟩
def defArgs (s : Stmt) : Arguments := match s with
  | .FunctionDef _ a _ _ _ _ _ _ _ _ => a
  | _ => { posonlyargs := [], args := [], vararg := none, kwonlyargs := [], kw_defaults := [], kwarg := none, defaults := [] }
def defBody (s : Stmt) : List Stmt := match s with
  | .FunctionDef _ _ b _ _ _ _ _ _ _ => b
  | _ => []
def defScope (s : Stmt) : Scope := match s with
  | .FunctionDef _ _ _ _ _ _ sc _ _ _ => sc
  | _ => { kind := .function, names := [], isGenerator := false, isCoroutine := false }
abbrev CX0 : CXT := fun _ _ _ _ _ _ => False
abbrev E0 : XK := fun _ _ _ => False
theorem pass0 {X : Cx} : Passes CX0 X E0 := fun _ _ _ _ _ _ _ h => h.elim
structure Fun (K : PySem.W.Frag) (x qual : Str) (st : Stmt) (f : Addr) (fd : FuncData) : Prop where
  ex : ∃ (oc : Value) (od : Option Addr) (kV doc pm : Value) (an : Option Addr) (cdv ct : Value) (osl : Array (Option Value)),
    fd = PySem.W.fnOf x qual (defArgs st) (defBody st) (defScope st) .none kV doc pm an cdv ct ∧ K.lookup f = some ⟨oc, od, .func fd, osl⟩ ∧ PySem.W.codeIn K cdv qual = true
  kp : PySem.W.keepIn K (.ref f) = true
section
variable {P : Program} {w : World} {K : PySem.W.Frag} {mg : Str → Option Value} {base : Heap}
theorem Fun.ok {x qual : Str} {st : Stmt} {f : Addr} {fd : FuncData} {N ps : List Str} {k : Nat} {sp : Sp} (F : Fun K x qual st f fd) (S : FnScope N ps (defScope st)) (len : ∀ vs H Q E, sp vs H Q E → vs.length = ps.length)
    (hbody : ∀ (cdv : Value) (A : Around) (outer : List Env) (s : Shared) (H : Hp) (vs : List V) (Q : VK) (E : XK), Room k (A.deeper (envOfC qual (defScope st) s.heap.objs.size f cdv)) → sp vs H Q E →
      ∃ t, PSs (cxOf CX0 P w K mg base N qual (defScope st) f cdv A outer s H E).nox (defBody st) t ∧ t { nx := fun _ H' => Q .non H', rt := Q } (start N vs) H) : FnOk P w K mg base CX0 (k + 1) f fd ps sp := by
  obtain ⟨oc, od, kV, doc, pm, an, cdv, ct, osl, rfl, lk, hcd⟩ := F.ex
  refine fn_of lk hcd S len fun A outer s H vs Q E hr hsp => ?_
  obtain ⟨t, h, q⟩ := hbody cdv A outer s H vs Q E hr hsp
  exact ⟨t, h.nox, q⟩
theorem Fun.binds {x qual : Str} {st : Stmt} {f : Addr} {fd : FuncData} {ps : List Str} (F : Fun K x qual st f fd)
    (h : ∀ (kV doc pm : Value) (an : Option Addr) (cdv ct : Value) (us : List Value), us.length = ps.length → bindArgs (PySem.W.fnOf x qual (defArgs st) (defBody st) (defScope st) .none kV doc pm an cdv ct) ⟨us, []⟩ = pure (ps.zip us)) : Binds K fd ps [] := by
  obtain ⟨oc, od, kV, doc, pm, an, cdv, ct, osl, rfl, lk, hcd⟩ := F.ex
  exact .all (h kV doc pm an cdv ct)
theorem fun_mk {x qual : Str} {st : Stmt} {f : Addr} {oc : Value} {od an : Option Addr} {osl : Array (Option Value)} {kV doc pm cdv ct : Value} (l : K.lookup f = some ⟨oc, od, .func (PySem.W.fnOf x qual (defArgs st) (defBody st) (defScope st) .none kV doc pm an cdv ct), osl⟩)
    (c : PySem.W.codeIn K cdv qual = true) (k : PySem.W.keepIn K (.ref f) = true) : Fun K x qual st f (PySem.W.fnOf x qual (defArgs st) (defBody st) (defScope st) .none kV doc pm an cdv ct) := ⟨⟨oc, od, kV, doc, pm, an, cdv, ct, osl, rfl, l, c⟩, k⟩
end
section
variable {X : Cx}
theorem pv (i : Nat) {x : Str} {pos : Pos} (hN : X.N[i]? = some x := by rfl) (hv : Vis X.env.scope x := by first | exact Or.inl rfl | exact Or.inr (Or.inl rfl) | exact Or.inr (Or.inr rfl)) (hd : (x == ("__debug__" : Str)) = false := by decide)
    (hcd : (x == ("__classdict__" : Str)) = false := by decide) : PE X (.Name x pos) (tVar i) := pe_var hN hv hd hcd
end
def Same (H H' : Hp) : Prop := ∀ b o, H b = some o → H' b = some o
theorem Same.refl (H : Hp) : Same H H := fun _ _ h => h
theorem Same.trans {H H1 H2 : Hp} (a : Same H H1) (b : Same H1 H2) : Same H H2 := fun c o h => b c o (a c o h)
theorem Same.free {H H' : Hp} (e : Same H H') {l : Addr} (h : H' l = Option.none) : H l = Option.none := by
  cases q : H l with
  | none => rfl
  | some o =>
    rw [e l o q] at h
    cases h
theorem Same.seq {K : PySem.W.Frag} {H H' : Hp} {a : Addr} {xs : List V} (e : Same H H') (h : SqL K H a xs) : SqL K H' a xs := by
  rcases h with (h | ⟨o, h⟩) | h
  · exact .inl (.inl (e _ _ h))
  · exact .inl (.inr ⟨o, e _ _ h⟩)
  · exact .inr h
end L2
set_option Elab.async false
set_option linter.all false
set_option maxRecDepth 100000
namespace L2
open PySem PySem.Spec PyProof.Rows
section
variable {κ : Type} [DecidableEq κ]
def valV (kvs : List (κ × V)) (k : κ) : Option V := (kvs.find? fun kv => decide (kv.1 = k)).map (·.2)
def putK (kvs : List (κ × V)) (k : κ) (v : V) : List (κ × V) :=
  if (kvs.any fun kv => decide (kv.1 = k)) = true then kvs.map (fun kv => if kv.1 = k then (kv.1, v) else kv) else kvs ++ [(k, v)]
def dropK (kvs : List (κ × V)) (k : κ) : List (κ × V) := kvs.filter fun kv => decide (kv.1 ≠ k)
theorem valV_pos {p : κ × V} {r : List (κ × V)} {k : κ} (e : p.1 = k) : valV (p :: r) k = some p.2 := by simp [valV, List.find?_cons, e]
theorem valV_neg {p : κ × V} {r : List (κ × V)} {k : κ} (e : ¬ p.1 = k) : valV (p :: r) k = valV r k := by simp [valV, List.find?_cons, e]
theorem valV_any (k : κ) : ∀ kvs : List (κ × V), (kvs.any fun kv => decide (kv.1 = k)) = (valV kvs k).isSome
  | [] => rfl
  | p :: r => by
    rw [List.any_cons]
    by_cases e : p.1 = k
    · simp only [valV_pos e, decide_eq_true e, Bool.true_or, Option.isSome_some]
    · rw [valV_neg e, decide_eq_false e, Bool.false_or]; exact valV_any k r
theorem length_putK (kvs : List (κ × V)) (k : κ) (v : V) : (putK kvs k v).length ≤ kvs.length + 1 := by
  unfold putK
  split
  · rw [List.length_map]; omega
  · rw [List.length_append, List.length_cons, List.length_nil]; omega
theorem RelO.isSome_eq {o : Option V} {u : Option Value} (r : RelO o u) : o.isSome = u.isSome := by
  cases o with
  | none => cases u with
    | none => rfl
    | some _ => exact (show False from r).elim
  | some _ => cases u with
    | none => exact (show False from r).elim
    | some _ => rfl
theorem RelO.getD {o : Option V} {u : Option Value} {d : V} {d' : Value} (r : RelO o u) (rd : RelV d d') : RelV (o.getD d) (u.getD d') := by
  cases o with
  | none => cases u with
    | none => exact rd
    | some _ => exact (show False from r).elim
  | some _ => cases u with
    | none => exact (show False from r).elim
    | some _ => exact r
theorem KV.val {kvs : List (κ × V)} {vs : List (κ × Value)} (r : KV kvs vs) (k : κ) : RelO (valV kvs k) (valueAt vs k) := by
  unfold KV at r
  induction r with
  | nil => exact True.intro
  | @cons p q ps qs h t ih =>
    obtain ⟨h1, h2⟩ := h
    by_cases e : p.1 = k
    · have e' : q.1 = k := h1.symm.trans e
      have b : valueAt (q :: qs) k = some q.2 := by simp [valueAt, List.find?_cons, e']
      rw [valV_pos e, b]; exact h2
    · have e' : ¬ q.1 = k := fun z => e (h1.trans z)
      have b : valueAt (q :: qs) k = valueAt qs k := by simp [valueAt, List.find?_cons, e']
      rw [valV_neg e, b]; exact ih
theorem KV.any {kvs : List (κ × V)} {vs : List (κ × Value)} (r : KV kvs vs) (k : κ) : (kvs.any fun kv => decide (kv.1 = k)) = vs.any fun kv => decide (kv.1 = k) := by
  unfold KV at r
  induction r with
  | nil => rfl
  | cons h t ih => rw [List.any_cons, List.any_cons, ih, h.1]
theorem KV.repl {kvs : List (κ × V)} {vs : List (κ × Value)} (r : KV kvs vs) (k : κ) {y : V} {u : Value} (ry : RelV y u) :
    KV (kvs.map fun kv => if kv.1 = k then (kv.1, y) else kv) (vs.map fun kv => if kv.1 = k then (kv.1, u) else kv) := by
  unfold KV at r ⊢
  induction r with
  | nil => exact .nil
  | @cons p q ps qs h t ih =>
    rw [List.map_cons, List.map_cons]
    refine .cons ?_ ih
    obtain ⟨h1, h2⟩ := h
    by_cases e : p.1 = k
    · rw [if_pos e, if_pos (h1.symm.trans e)]; exact ⟨h1, ry⟩
    · rw [if_neg e, if_neg (fun z => e (h1.trans z))]; exact ⟨h1, h2⟩
theorem KV.put {kvs : List (κ × V)} {vs : List (κ × Value)} (r : KV kvs vs) (k : κ) {y : V} {u : Value} (ry : RelV y u) : KV (putK kvs k y) (stored vs k u) := by
  unfold putK stored
  rw [r.any k]
  by_cases e : (vs.any fun kv => decide (kv.1 = k)) = true
  · rw [if_pos e, if_pos e]; exact r.repl k ry
  · rw [if_neg e, if_neg e]; exact Paired.snoc r ⟨rfl, ry⟩
theorem KV.drop {kvs : List (κ × V)} {vs : List (κ × Value)} (r : KV kvs vs) (k : κ) : KV (dropK kvs k) (without vs k) := by
  unfold KV at r ⊢
  unfold dropK without
  induction r with
  | nil => exact .nil
  | @cons p q ps qs h t ih =>
    obtain ⟨h1, h2⟩ := h
    rw [List.filter_cons, List.filter_cons]
    by_cases e : p.1 = k
    · have a : ¬ decide (p.1 ≠ k) = true := by simp [e]
      have b : ¬ decide (q.1 ≠ k) = true := by simp [h1.symm.trans e]
      rw [if_neg a, if_neg b]; exact ih
    · have e' : ¬ q.1 = k := fun z => e (h1.trans z)
      have a : decide (p.1 ≠ k) = true := by simp [e]
      have b : decide (q.1 ≠ k) = true := by simp [e']
      rw [if_pos a, if_pos b]; exact .cons ⟨h1, h2⟩ ih
theorem KV.keys {kvs : List (κ × V)} {vs : List (κ × Value)} (r : KV kvs vs) : kvs.map (·.1) = vs.map (·.1) := by
  unfold KV at r
  induction r with
  | nil => rfl
  | cons h t ih => rw [List.map_cons, List.map_cons, ih, h.1]
theorem KV.length {kvs : List (κ × V)} {vs : List (κ × Value)} (r : KV kvs vs) : kvs.length = vs.length := Paired.length r
end
theorem kV_is {P : Program} {w : World} {k : Key} {u : Value} (r : RelV (kV k) u) : (mixKind P w).is k u = true := by
  cases k with
  | inl i => obtain ⟨t, e⟩ := (show ∃ t, u = Value.int i t from r); subst e; exact mixKind_int P w i t
  | inr x => obtain ⟨t, e⟩ := (show ∃ t, u = Value.str x t from r); subst e; exact mixKind_str P w x t
abbrev KT (H : Hp) : List (List Key × V) → List (List Key × Addr × Value) → Prop := Paired fun p q => p.1 = q.1 ∧ H q.2.1 = some (.tup (p.1.map kV)) ∧ RelV p.2 q.2.2
theorem KT.val {H : Hp} {kvs : List (List Key × V)} {xs : List (List Key × Addr × Value)} (r : KT H kvs xs) (k : List Key) : RelO (valV kvs k) ((atKey xs k).map (·.2)) := by
  induction r with
  | nil => exact True.intro
  | @cons p q ps qs h t ih =>
    obtain ⟨h1, _, h2⟩ := h
    by_cases e : p.1 = k
    · have e' : q.1 = k := h1.symm.trans e
      have b : atKey (q :: qs) k = some q.2 := by simp [atKey, List.find?_cons, e']
      rw [valV_pos e, b]; exact h2
    · have e' : ¬ q.1 = k := fun z => e (h1.trans z)
      have b : atKey (q :: qs) k = atKey qs k := by simp [atKey, List.find?_cons, e']
      rw [valV_neg e, b]; exact ih
theorem KT.repl {H : Hp} {kvs : List (List Key × V)} {xs : List (List Key × Addr × Value)} (r : KT H kvs xs) (k : List Key) {y : V} {u : Value} (ry : RelV y u) :
    KT H (kvs.map fun kv => if kv.1 = k then (kv.1, y) else kv) (xs.map (putAt k u)) := by
  induction r with
  | nil => exact .nil
  | @cons p q ps qs h t ih =>
    rw [List.map_cons, List.map_cons]
    refine .cons ?_ ih
    obtain ⟨h1, h2, h3⟩ := h
    unfold putAt
    by_cases e : p.1 = k
    · rw [if_pos e, if_pos (h1.symm.trans e)]; exact ⟨h1, h2, ry⟩
    · rw [if_neg e, if_neg (fun z => e (h1.trans z))]; exact ⟨h1, h2, h3⟩
theorem KT.put {H : Hp} {kvs : List (List Key × V)} {xs : List (List Key × Addr × Value)} (r : KT H kvs xs) (k : List Key) {b : Addr} {y : V} {u : Value} (hb : H b = some (.tup (k.map kV))) (ry : RelV y u) :
    KT H (putK kvs k y) (storedH xs k b u) := by
  have e : (kvs.any fun kv => decide (kv.1 = k)) = (atKey xs k).isSome := by
    rw [valV_any, (r.val k).isSome_eq, Option.isSome_map]
  unfold putK storedH
  rw [e]
  by_cases q : (atKey xs k).isSome = true
  · rw [if_pos q, if_pos q]; exact r.repl k ry
  · rw [if_neg q, if_neg q]; exact Paired.snoc r ⟨rfl, hb, ry⟩
theorem KT.keeps {H H' : Hp} {kvs : List (List Key × V)} {xs : List (List Key × Addr × Value)} (r : KT H kvs xs) (ht : ∀ b ys, H b = some (.tup ys) → H' b = some (.tup ys)) : KT H' kvs xs :=
  Paired.mapP r fun _ _ z => ⟨z.1, ht _ _ z.2.1, z.2.2⟩
section
variable {P : Program} {w : World} {H : Hp} {h : Heap} {a : Addr}
theorem rd_of {u : HO} (ok : HOk P w H h) (e : Rd H a u) : ObjOk P w H h a u := e.ok ok
theorem dk_rd {kvs : List (Key × V)} (ok : HOk P w H h) (e : Rd H a (.dK kvs)) : kvs.length ≤ sizeLine ∧ (a == sysModules) = false ∧ ∃ vs, KV kvs vs ∧ h.DictOf (mixKind P w) a vs :=
  show ObjOk P w H h a (.dK kvs) from rd_of ok e
theorem dk_of {kvs : List (Key × V)} (ok : HOk P w H h) (e : H a = some (.dK kvs)) : kvs.length ≤ sizeLine ∧ (a == sysModules) = false ∧ ∃ vs, KV kvs vs ∧ h.DictOf (mixKind P w) a vs := dk_rd ok (.inl e)
end
def DGet (H : Hp) (a : Addr) (y : V) (r : Option V) : Prop :=
  (∃ kvs k, Rd H a (.dK kvs) ∧ y = kV k ∧ r = valV kvs k) ∨ ∃ kvs k b, Rd H a (.dT kvs) ∧ y = .ref b ∧ H b = some (.tup (k.map kV)) ∧ r = valV kvs k
def DPut (H : Hp) (a : Addr) (y v : V) (H' : Hp) : Prop :=
  (∃ kvs k, H a = some (.dK kvs) ∧ y = kV k ∧ kvs.length < sizeLine ∧ H' = upd H a (.dK (putK kvs k v))) ∨
  ∃ kvs k b, H a = some (.dT kvs) ∧ y = .ref b ∧ H b = some (.tup (k.map kV)) ∧ kvs.length < sizeLine ∧ H' = upd H a (.dT (putK kvs k v))
theorem DGet.k {H : Hp} {a : Addr} {kvs : List (Key × V)} {k : Key} (e : H a = some (.dK kvs)) : DGet H a (kV k) (valV kvs k) := .inl ⟨kvs, k, .inl e, rfl, rfl⟩
theorem DGet.t {H : Hp} {a b : Addr} {kvs : List (List Key × V)} {k : List Key} (e : H a = some (.dT kvs)) (eb : H b = some (.tup (k.map kV))) : DGet H a (.ref b) (valV kvs k) := .inr ⟨kvs, k, b, .inl e, rfl, eb, rfl⟩
theorem DPut.k {H : Hp} {a : Addr} {kvs : List (Key × V)} {k : Key} {v : V} (e : H a = some (.dK kvs)) (hl : kvs.length < sizeLine) : DPut H a (kV k) v (upd H a (.dK (putK kvs k v))) := .inl ⟨kvs, k, e, rfl, hl, rfl⟩
theorem DPut.t {H : Hp} {a b : Addr} {kvs : List (List Key × V)} {k : List Key} {v : V} (e : H a = some (.dT kvs)) (eb : H b = some (.tup (k.map kV))) (hl : kvs.length < sizeLine) :
    DPut H a (.ref b) v (upd H a (.dT (putK kvs k v))) := .inr ⟨kvs, k, b, e, rfl, eb, hl, rfl⟩
section
variable {X : Cx} {pins : List (Addr × Obj)} {σ : St} {H : Hp} {s : Shared} {a : Addr} {y v : V} {u r : Value} {o : Option V} {A : Around} {E : Value → Shared → Prop}
theorem Inv.big (I : Inv X pins σ H s) : sysModules < s.heap.objs.size := by
  have h : mainGlobals < s.heap.objs.size := (I.mod.glob.keeps I.bk).lt
  exact Nat.lt_trans (by decide) h
theorem d_write {h' : Heap} {t' : Nat} {ob : HO} (I : Inv X pins σ H s) (mu : Mut (H a)) (hs : Heap.SameBut a s.heap h') (he : ∃ q, h'.get? a = some q) (new : ObjOk X.prog X.w (upd H a ob) h' a ob) :
    Inv X pins σ (upd H a ob) { s with heap := h', toks := t' } :=
  I.write (x := a) (e := a) mu (.inl rfl) (fun b q hb z => (hs.2 b hb).trans z) he new
theorem dk_new {P : Program} {w : World} {H' : Hp} {h' : Heap} {kvs : List (Key × V)} {vs : List (Key × Value)} (z : kvs.length ≤ sizeLine) (hd : (a == sysModules) = false) (rel : KV kvs vs) (dd : h'.DictOf (mixKind P w) a vs) :
    ObjOk P w H' h' a (.dK kvs) := ⟨z, hd, vs, rel, dd⟩
end
section
variable {X : Cx} {pins : List (Addr × Obj)} {σ : St} {H : Hp} {s : Shared} {a : Addr} {kvs : List (Key × V)} {k : Key} {u : Value} {A : Around} {E : Value → Shared → Prop}
theorem d_len {Q : Value → Shared → Prop} (I : Inv X pins σ H s) (e : Rd H a (.dK kvs)) (h : ∀ t s', Inv X pins σ H s' → Q (.int kvs.length t) s') : wpAny (model X.prog X.w) A (call (.builtin "len") [.ref a]) Q E s := by
  obtain ⟨z, hd, vs, rel, dd⟩ := dk_rd I.hok e
  refine call_len_dict hd dd (by rw [← rel.length]; rw [sizeLine_eq] at z; omega) ?_
  rw [← rel.length]
  exact h _ _ (I.tok _)
end
section
variable {X : Cx} {o i e value : Expr} {pos pos' tpos : Pos} {td ty tv : TE}
end
theorem dk_empty {P : Program} {w : World} {H : Hp} (h : Heap) (hb : sysModules < h.objs.size) : ObjOk P w H (h.push { cls := .type "dict", data := .dict #[] }) h.objs.size (.dK []) :=
  ⟨Nat.zero_le _, beq_eq_false_iff_ne.mpr (Ne.symm (Nat.ne_of_lt hb)), [], .nil, Heap.DictOf.new h⟩
def tDNewK : TE := fun _ H Q => ∀ p, H p = none → Q (.ref p) (upd H p (.dK []))
section
variable {X : Cx} {pos : Pos}
end
def tPairs : List (TE × TE) → St → Hp → (List (V × V) → Hp → Prop) → Prop
  | [], _, H, Q => Q [] H
  | (tk, tv) :: r, σ, H, Q => tk σ H fun x H1 => tv σ H1 fun y H2 => tPairs r σ H2 fun ps H3 => Q ((x, y) :: ps) H3
abbrev VV : List (V × V) → List (Value × Value) → Prop := Paired fun p q => RelV p.1 q.1 ∧ RelV p.2 q.2
def PPs (X : Cx) (pos : Pos) (keys : List (Option Expr)) (values : List Expr) (trs : List (TE × TE)) : Prop :=
  ∀ (pins : List (Addr × Obj)) (s : Shared) (σ : St) (H : Hp) (Q : List (V × V) → Hp → Prop), Inv X pins σ H s → tPairs trs σ H Q →
    wpAny (model X.prog X.w) X.A (evalPairs (pairTrees keys values X.env pos)) (fun vs s' => ∃ ps H', Inv X pins σ H' s' ∧ VV ps vs ∧ Q ps H') X.xe s
theorem pps_nil {X : Cx} {pos : Pos} : PPs X pos [] [] [] := fun pins s σ H Q I h => pairTrees_nil_walk ⟨[], H, I, .nil, h⟩
theorem pps_cons {X : Cx} {pos : Pos} {k v : Expr} {ks : List (Option Expr)} {vs : List Expr} {tk tv : TE} {trs : List (TE × TE)} (hk : PE X k tk) (hv : PE X v tv) (hr : PPs X pos ks vs trs) :
    PPs X pos (some k :: ks) (v :: vs) ((tk, tv) :: trs) := fun pins s σ H Q I h =>
  pairTrees_cons_walk (thn (hk pins s σ H _ I h) fun u s1 ⟨x, H1, I1, rx, q1⟩ => thn (hv pins s1 σ H1 _ I1 q1) fun w2 s2 ⟨y, H2, I2, ry, q2⟩ =>
    thn (hr pins s2 σ H2 _ I2 q2) fun ws s3 ⟨ps, H3, I3, rel, q3⟩ => ⟨(x, y) :: ps, H3, I3, .cons ⟨rx, ry⟩ rel, q3⟩)
def mergeK (kvs more : List (Key × V)) : List (Key × V) := more.foldl (fun acc kv => putK acc kv.1 kv.2) kvs
theorem KV.merge : ∀ {more : List (Key × V)} {rs : List (Key × Value)} {kvs : List (Key × V)} {vs : List (Key × Value)}, KV more rs → KV kvs vs → KV (mergeK kvs more) (merged vs rs) := by
  intro more rs kvs vs r
  unfold KV at r
  induction r generalizing kvs vs with
  | nil => intro q; exact q
  | @cons p q ps qs h t ih =>
    intro r0
    have e : KV (putK kvs p.1 p.2) (stored vs q.1 q.2) := by
      have := r0.put p.1 h.2
      rw [← h.1]; exact this
    exact ih e
theorem length_mergeK : ∀ (more kvs : List (Key × V)), (mergeK kvs more).length ≤ kvs.length + more.length
  | [], kvs => by show kvs.length ≤ kvs.length + 0; omega
  | p :: r, kvs => by
    have h1 := length_mergeK r (putK kvs p.1 p.2)
    have h2 := length_putK kvs p.1 p.2
    show (mergeK (putK kvs p.1 p.2) r).length ≤ _
    rw [List.length_cons]; omega
theorem carries_of {P : Program} {w : World} : ∀ {kvs : List (Key × V)} {ws : List (Value × Value)}, VV (kvs.map fun kv => (kV kv.1, kv.2)) ws → ∃ rs, Carries (mixKind P w) ws rs ∧ KV kvs rs
  | [], _, r => by rw [List.map_nil] at r; cases r; exact ⟨[], True.intro, .nil⟩
  | p :: kvs, _, r => by
    rw [List.map_cons] at r
    cases r with
    | @cons a b as bs h t =>
      obtain ⟨rs, c, q⟩ := carries_of (P := P) (w := w) t
      obtain ⟨b1, b2⟩ := b
      exact ⟨(p.1, b2) :: rs, ⟨kV_is h.1, rfl, c⟩, .cons ⟨rfl, h.2⟩ q⟩
def tDisp (trs : List (TE × TE)) : TE := fun σ H Q => ∀ p, H p = none → tPairs trs σ (upd H p (.dK [])) fun ps H2 => H2 p = some (.dK []) ∧ ∃ kvs : List (Key × V), ps = kvs.map (fun kv => (kV kv.1, kv.2)) ∧ kvs.length ≤ 15 ∧ Q (.ref p) (upd H2 p (.dK (mergeK [] kvs)))
theorem pe_disp {X : Cx} {pos : Pos} {keys : List (Option Expr)} {values : List Expr} {trs : List (TE × TE)} (h : PPs X pos keys values trs) (hall : keys.all (·.isSome) = true) (hl : keys.length = values.length) (h0 : keys ≠ [])
    (h15 : keys.length ≤ 15) : PE X (.Dict keys values pos) (tDisp trs) := by
  intro pins s σ H Q I q
  have hn := I.hok.fresh (Nat.le_refl s.heap.objs.size)
  have I1 := I.laid (a := s.heap.objs.size) (o := .dK []) (h' := s.heap.push { cls := .type "dict", data := .dict #[] }) (t' := s.toks) (fun _ _ q => Heap.get?_push_of_some _ q) (Nat.le_refl _) (dk_empty s.heap I.big)
  refine wpAny_Dict_walk (knd := mixKind X.prog X.w) hall hl h0 h15 (thn (h pins _ σ _ _ I1 (q _ hn)) fun ws s2 ⟨ps, H2, I2, rel, e, kvs, ep, lk, q2⟩ => ?_)
  subst ep
  obtain ⟨rs, c, rk⟩ := carries_of (P := X.prog) (w := X.w) rel
  obtain ⟨z, hd, vs0, r0, dd⟩ := dk_of I2.hok e
  cases r0
  refine ⟨rs, c, dd, fun h' dd' hs => ⟨.ref s.heap.objs.size, _, ?_, rfl, q2⟩⟩
  have hz : (mergeK [] kvs).length ≤ sizeLine := by
    have h1 := length_mergeK kvs []
    rw [List.length_nil] at h1
    rw [sizeLine_eq]; omega
  have he : ∃ q, h'.get? s.heap.objs.size = some q := let ⟨q, _, _, hq, _⟩ := dd'; ⟨q, hq⟩
  exact d_write I2 (by rw [e]; exact True.intro) hs he (dk_new hz hd (rk.merge .nil) dd')
section
variable {X : Cx} {pins : List (Addr × Obj)} {σ : St} {H : Hp} {s : Shared} {a : Addr} {y d : V} {u r : Value} {o : Option V} {A : Around} {E : Value → Shared → Prop}
end
section
variable {X : Cx} {o e f : Expr} {apos cpos : Pos} {td ty tx : TE}
end
section
variable {X : Cx} {pins : List (Addr × Obj)} {σ : St} {H : Hp} {s : Shared} {a : Addr} {kvs : List (Key × V)} {A : Around} {E : Value → Shared → Prop}
end
section
variable {X : Cx} {pins : List (Addr × Obj)} {σ : St} {H : Hp} {s : Shared} {a : Addr} {y : V} {u : Value} {A : Around} {E : Value → Shared → Prop}
end
end L2
namespace L2
open PySem PySem.Spec PyProof.Rows
section
variable {X : Cx}
end
section
variable {κ : Type} [DecidableEq κ]
end
end L2
set_option Elab.async false
set_option linter.all false
set_option maxRecDepth 100000
namespace L2
open PySem PySem.Spec PyProof.Rows
def cxComp (X : Cx) (scope : Scope) (cl : List (Str × Addr)) (N : List Str) (C : Addr) (ex : List Addr) (s₀ : Shared) (H₀ : Hp) : Cx where
  prog := X.prog
  w := X.w
  K := X.K
  mg := X.mg
  base := X.base
  A := X.A
  N := N
  s₀ := s₀
  H₀ := H₀
  env := compEnvC scope cl C X.env
  outer := X.stack
  stack := X.stack
  ex := ex
  fn := fun _ => false
  calm := X.calm
  pn := X.pn
  xe := fun _ _ => False
theorem calm_comp {X : Cx} {scope : Scope} {cl : List (Str × Addr)} {N : List Str} {C : Addr} {ex : List Addr} {s₀ : Shared} {H₀ : Hp} (c : Calm X) : Calm (cxComp X scope cl N C ex s₀ H₀) := c
structure CompScope (X : Cx) (scope : Scope) (tn cn : List Str) (caps : List Nat) : Prop where
  kind : scope.kind = .function
  nocell : ∀ y ∈ scope.names, y.2 ≠ .cell
  names : ∀ y ∈ scope.names, y.2 = .local → scope.names.lookup y.1 = some .local
  caught : ∀ y ∈ scope.names, y.2 = .free → X.env.kindOf y.1 = some .cell ∨ X.env.kindOf y.1 = some .free
  free : ∀ y ∈ cn, scope.names.lookup y = some .free
  slots : caps.map (fun j => X.N[j]?) = cn.map some
theorem CompScope.of {X : Cx} {scope osc : Scope} {tn cn : List Str} {caps : List Nat} (ho : X.env.scope = osc) (kind : scope.kind = .function) (nocell : ∀ y ∈ scope.names, y.2 ≠ .cell)
    (names : ∀ y ∈ scope.names, y.2 = .local → scope.names.lookup y.1 = some .local) (caught : ∀ y ∈ scope.names, y.2 = .free → osc.names.lookup y.1 = some .cell ∨ osc.names.lookup y.1 = some .free) (free : ∀ y ∈ cn, scope.names.lookup y = some .free)
    (slots : caps.map (fun j => X.N[j]?) = cn.map some) : CompScope X scope tn cn caps :=
  ⟨kind, nocell, names, fun y hy hf => by show X.env.scope.names.lookup y.1 = _ ∨ X.env.scope.names.lookup y.1 = _; rw [ho]; exact caught y hy hf, free, slots⟩
def capσ (σ : St) (caps : List Nat) : St := caps.map fun j => (σ[j]?).getD none
theorem closureFor_acc (env : Env) : ∀ (names : List (Str × NameKind)) (cs : List (Str × Addr)), (∀ x ∈ names, x.2 = .free → ∃ c, env.cells.lookup x.1 = some c) → (∀ y c, cs.lookup y = some c → env.cells.lookup y = some c) →
    ∃ cl : List (Str × Addr), (forIn names cs fun (x : Str × NameKind) (r : List (Str × Addr)) => (if (x.2 == NameKind.free) = true then do let a ← cellOf env x.1; pure (ForInStep.yield ((x.1, a) :: r)) else pure (ForInStep.yield r) : Sem (ForInStep (List (Str × Addr))))) = pure cl ∧
      (∀ y c, cl.lookup y = some c → env.cells.lookup y = some c) ∧ (∀ x ∈ names, x.2 = .free → ∃ c, cl.lookup x.1 = some c) ∧ ∀ y c, cs.lookup y = some c → ∃ c', cl.lookup y = some c'
  | [], cs, _, h2 => ⟨cs, by simp, h2, fun x h => absurd h (by simp), fun y c h => ⟨c, h⟩⟩
  | (n, k) :: r, cs, h1, h2 => by
    by_cases hk : (k == NameKind.free) = true
    · obtain ⟨c, hc⟩ := h1 (n, k) List.mem_cons_self (by simpa using hk)
      have h2' : ∀ y d, ((n, c) :: cs).lookup y = some d → env.cells.lookup y = some d := fun y d h => by
        rw [List.lookup_cons] at h
        split at h
        · rename_i e
          have e' : y = n := by simpa using e
          cases h
          rw [e']; exact hc
        · exact h2 y d h
      obtain ⟨cl, e, p1, p2, p3⟩ := closureFor_acc env r ((n, c) :: cs) (fun x hx => h1 x (List.mem_cons_of_mem _ hx)) h2'
      refine ⟨cl, ?_, p1, fun x hx hf => ?_, fun y d h => ?_⟩
      · rw [List.forIn_cons]
        simp only [hk, if_true, cellOf, hc, pure_bind]
        exact e
      · rcases List.mem_cons.mp hx with e1 | e1
        · subst e1
          exact p3 n c (by rw [List.lookup_cons]; simp)
        · exact p2 x e1 hf
      · by_cases hy : (y == n) = true
        · exact p3 y c (by rw [List.lookup_cons, hy])
        · exact p3 y d (by rw [List.lookup_cons]; simp only [Bool.not_eq_true] at hy; rw [hy]; exact h)
    · obtain ⟨cl, e, p1, p2, p3⟩ := closureFor_acc env r cs (fun x hx => h1 x (List.mem_cons_of_mem _ hx)) h2
      refine ⟨cl, ?_, p1, fun x hx hf => ?_, p3⟩
      · rw [List.forIn_cons]
        simp only [hk, if_false, pure_bind, Bool.false_eq_true]
        exact e
      · rcases List.mem_cons.mp hx with e1 | e1
        · subst e1
          exact absurd (by simpa using hf) hk
        · exact p2 x e1 hf
theorem closureFor_some {scope : Scope} {env : Env} (h : ∀ x ∈ scope.names, x.2 = .free → ∃ c, env.cells.lookup x.1 = some c) :
    ∃ cl : List (Str × Addr), closureFor scope env = pure cl ∧ (∀ y c, cl.lookup y = some c → env.cells.lookup y = some c) ∧ ∀ x ∈ scope.names, x.2 = .free → ∃ c, cl.lookup x.1 = some c := by
  obtain ⟨cl, e, p1, p2, _⟩ := closureFor_acc env scope.names [] h (fun y c h => by simp at h)
  refine ⟨cl, ?_, p1, p2⟩
  unfold closureFor
  simp only [bind_pure]
  first
    | exact e
    | (rw [← e]; rfl)
    | (rw [← e]; congr 1; funext x r; obtain ⟨n, k⟩ := x; by_cases hk : (k == NameKind.free) = true <;> simp [hk])
theorem lookup_relabel_free {env : Env} : ∀ {names : List (Str × NameKind)} {x : Str}, names.lookup x = some .free →
    (names.map fun (n, k) => if (k == NameKind.free && env.scope.kind == .function && env.kindOf n == some .cell) then (n, NameKind.cell) else (n, k)).lookup x = some .cell ∨
    (names.map fun (n, k) => if (k == NameKind.free && env.scope.kind == .function && env.kindOf n == some .cell) then (n, NameKind.cell) else (n, k)).lookup x = some .free
  | [], _, h => by simp at h
  | (n, k) :: r, x, h => by
    have ih := @lookup_relabel_free env r x
    show List.lookup x ((if (k == NameKind.free && env.scope.kind == .function && env.kindOf n == some .cell) = true then (n, NameKind.cell) else (n, k)) :: _) = _ ∨ List.lookup x ((if (k == NameKind.free && env.scope.kind == .function && env.kindOf n == some .cell) = true then (n, NameKind.cell) else (n, k)) :: _) = _
    cases hx : x == n with
    | true =>
      simp only [List.lookup_cons, hx] at h
      cases h
      by_cases hc : (NameKind.free == NameKind.free && env.scope.kind == .function && env.kindOf n == some .cell) = true
      · rw [if_pos hc]; simp [List.lookup_cons, hx]
      · rw [if_neg hc]; simp [List.lookup_cons, hx]
    | false =>
      simp only [List.lookup_cons, hx] at h
      by_cases hc : (k == NameKind.free && env.scope.kind == .function && env.kindOf n == some .cell) = true
      · rw [if_pos hc]; simp only [List.lookup_cons, hx]; exact ih h
      · rw [if_neg hc]; simp only [List.lookup_cons, hx]; exact ih h
theorem relabel_inv {env : Env} : ∀ {names : List (Str × NameKind)} {x : Str}, (∀ y ∈ names, y.2 ≠ .cell) →
    ((names.map fun (n, k) => if (k == NameKind.free && env.scope.kind == .function && env.kindOf n == some .cell) then (n, NameKind.cell) else (n, k)).lookup x = some .cell ∨
    (names.map fun (n, k) => if (k == NameKind.free && env.scope.kind == .function && env.kindOf n == some .cell) then (n, NameKind.cell) else (n, k)).lookup x = some .free) → names.lookup x = some .free
  | [], _, _, h => by simp at h
  | (n, k) :: r, x, hn, h => by
    have ih := @relabel_inv env r x (fun y hy => hn y (List.mem_cons_of_mem _ hy))
    have h : List.lookup x ((if (k == NameKind.free && env.scope.kind == .function && env.kindOf n == some .cell) = true then (n, NameKind.cell) else (n, k)) :: _) = _ ∨ List.lookup x ((if (k == NameKind.free && env.scope.kind == .function && env.kindOf n == some .cell) = true then (n, NameKind.cell) else (n, k)) :: _) = _ := h
    cases hx : x == n with
    | true =>
      simp only [List.lookup_cons, hx]
      by_cases hc : (k == NameKind.free && env.scope.kind == .function && env.kindOf n == some .cell) = true
      · have : (k == NameKind.free) = true := by
          simp only [Bool.and_eq_true] at hc; exact hc.1.1
        have : k = .free := by simpa using this
        rw [this]
      · rw [if_neg hc] at h
        simp only [List.lookup_cons, hx] at h
        rcases h with h | h
        · exact absurd (Option.some.inj h) (hn (n, k) List.mem_cons_self)
        · rw [Option.some.inj h]
    | false =>
      simp only [List.lookup_cons, hx]
      by_cases hc : (k == NameKind.free && env.scope.kind == .function && env.kindOf n == some .cell) = true
      · rw [if_pos hc] at h; simp only [List.lookup_cons, hx] at h; exact ih h
      · rw [if_neg hc] at h; simp only [List.lookup_cons, hx] at h; exact ih h
section
variable {X : Cx} {scope : Scope} {tn cn : List Str} {caps : List Nat} {pins : List (Addr × Obj)} {σ : St} {H : Hp} {s : Shared} {fp : List Addr} {cl : List (Str × Addr)} {ob : Obj}
theorem comp_ok (S : CompScope X scope tn cn caps) (I : Inv X pins σ H s) (hcl : ∀ y c, cl.lookup y = some c → X.env.cells.lookup y = some c) (hcl2 : ∀ x ∈ scope.names, x.2 = .free → ∃ c, cl.lookup x.1 = some c)
    (hf : ∀ b ∈ fp, FpOk X pins H b) (hfp : ∀ b ∈ fp, b < s.heap.objs.size) (N : List Str) :
    (cxComp X scope cl N (s.heap.push ob).objs.size (s.heap.objs.size :: fp) { s with heap := s.heap.push ob } H).Ok := by
  have hC : (s.heap.push ob).objs.size = s.heap.objs.size + 1 := by rw [Heap.size_push]
  refine ⟨I.ok.mod, S.kind, I.ok.glob, I.ok.blt, Nat.le_refl _, fun x y c h1 h2 => I.ok.inj x y c (hcl x c h1) (hcl y c h2), fun x hx => ?_, fun x c h => absurd h (by simp [cxComp]), I.ok.hd, I.ok.frames, .inl rfl, fun b hb => ?_,
    fun b o e => ⟨Heap.get?_push_of_some _ (I.bs b o e).1, (I.bs b o e).2⟩, ?_, fun b o e hb => ?_, fun b hb z => ?_, ?_, I.stkFree⟩
  · exact hcl2 (x, .free) (PySem.mem_of_lookup (relabel_inv S.nocell hx)) rfl
  · rcases List.mem_cons.mp (show b ∈ s.heap.objs.size :: fp from hb) with e | hb
    · subst e
      refine ⟨fun z => ?_, fun x c e z => ?_⟩
      · have z' : s.heap.objs.size = (s.heap.push ob).objs.size := z
        omega
      · obtain ⟨v, q⟩ := I.cell x c (hcl x c e)
        exact absurd q.lt (by rw [z]; exact Nat.lt_irrefl _)
    · refine ⟨fun z => ?_, fun x c e => (hf b hb).2.2.2.2.1 x c (hcl x c e)⟩
      have z' : b = (s.heap.push ob).objs.size := z
      have h1 := hfp b hb
      rw [z', hC] at h1
      exact Nat.lt_irrefl _ (Nat.lt_of_succ_lt h1)
  · show X.base.objs.size ≤ (s.heap.push ob).objs.size
    have h1 := I.ok.bsz
    have h2 := I.sz
    omega
  · rcases List.mem_cons.mp (show b ∈ s.heap.objs.size :: fp from hb) with e1 | hb
    · subst e1
      exact absurd (Heap.lt_size (I.bk _ o e)) (Nat.lt_irrefl _)
    · rcases (hf b hb).2.2.2.1 with z | z
      · exact I.ok.noex b o e z
      · have h1 := I.ok.bsz
        have h2 := Heap.lt_size e
        exact Nat.lt_irrefl _ (Nat.lt_of_lt_of_le h2 (Nat.le_trans h1 z))
  · have z' := I.stkSub b z
    rcases List.mem_cons.mp (show b ∈ s.heap.objs.size :: fp from hb) with e1 | hb
    · subst e1
      rcases List.mem_cons.mp z' with z1 | z1
      · exact absurd I.lt (by rw [← z1]; exact Nat.lt_irrefl _)
      · exact I.nofs (Nat.le_refl _) z1
    · rcases List.mem_cons.mp z' with z1 | z1
      · exact (hf b hb).2.1 z1
      · exact (hf b hb).2.2.1 z1
  · exact I.stack.of_keeps fun b o e _ => ⟨o, Heap.get?_push_of_some _ e, rfl⟩
theorem comp_inv (S : CompScope X scope tn cn caps) (I : Inv X pins σ H s) (hcl : ∀ y c, cl.lookup y = some c → X.env.cells.lookup y = some c) (hcl2 : ∀ x ∈ scope.names, x.2 = .free → ∃ c, cl.lookup x.1 = some c)
    (hf : ∀ b ∈ fp, FpOk X pins H b) (hfp : ∀ b ∈ fp, b < s.heap.objs.size) (hob : ∀ v, ob.data ≠ .cell v) (hfr : ob.isFreed = false) {h1 : Heap} {m0 : Str → Option Value} {tk : Nat} (hn : h1.Ns (s.heap.push ob).objs.size m0)
    (hk : ∀ b o, (s.heap.push ob).get? b = some o → h1.get? b = some o) :
    Inv (cxComp X scope cl (tn ++ cn) (s.heap.push ob).objs.size (s.heap.objs.size :: fp) { s with heap := s.heap.push ob } H) (X.pn ++ pins ++ [(s.heap.objs.size, ob)]) (List.replicate tn.length none ++ capσ σ caps) H { s with heap := h1, toks := tk } := by
  have hC : (s.heap.push ob).objs.size = s.heap.objs.size + 1 := by rw [Heap.size_push]
  have hk' : ∀ b o, s.heap.get? b = some o → h1.get? b = some o := fun b o e => hk b o (Heap.get?_push_of_some _ e)
  have hlen : caps.length = cn.length := by have := congrArg List.length S.slots; simpa using this
  refine ⟨comp_ok S I hcl hcl2 hf hfp _, rfl, I.bare, Un.kept hk, ⟨m0, hn, fun i x v e1 e2 e3 => ?_⟩, fun x c e => ?_, I.hok.fresh (by rw [hC]; exact Nat.le_succ _), fun x c e => I.freeC x c (hcl x c e), fun p hp => ?_, I.hok.kept hk', ?_⟩
  · have e1 : (tn ++ cn)[i]? = some x := e1
    by_cases hi : i < tn.length
    · rw [List.getElem?_append_left (by simpa using hi), List.getElem?_replicate, if_pos hi] at e2
      cases e2
    · have hi' : tn.length ≤ i := Nat.le_of_not_lt hi
      rw [List.getElem?_append_right (by simpa using hi'), List.length_replicate] at e2
      rw [List.getElem?_append_right hi'] at e1
      have hx : x ∈ cn := List.mem_of_getElem? e1
      have hsl : (caps.map fun j => X.N[j]?)[i - tn.length]? = (cn.map some)[i - tn.length]? := by rw [S.slots]
      rw [List.getElem?_map, List.getElem?_map, e1] at hsl
      unfold capσ at e2
      rw [List.getElem?_map] at e2
      cases hj : caps[i - tn.length]? with
      | none => rw [hj] at e2; cases e2
      | some j =>
        rw [hj] at hsl e2
        have hN : X.N[j]? = some x := Option.some.inj hsl
        have e2 : (σ[j]?).getD none = some v := Option.some.inj e2
        have hσ : σ[j]? = some (some v) := by
          cases q : σ[j]? with
          | none => rw [q] at e2; cases e2
          | some y => rw [q] at e2; rw [← e2]; rfl
        have hkx := S.caught (x, .free) (PySem.mem_of_lookup (S.free x hx)) rfl
        obtain ⟨m, _, hl⟩ := I.loc
        obtain ⟨u, r, l⟩ := hl j x v hN hσ (by rcases hkx with z | z; exact .inr (.inl z); exact .inr (.inr z))
        refine ⟨u, r, ?_⟩
        rcases l with ⟨k, _⟩ | ⟨k, c, e, z⟩
        · rcases hkx with z | z
          · rw [show X.env.kindOf x = _ from k] at z; cases z
          · rw [show X.env.kindOf x = _ from k] at z; cases z
        · obtain ⟨c', ec⟩ := hcl2 (x, .free) (PySem.mem_of_lookup (S.free x hx)) rfl
          have e' := hcl x c' ec
          rw [e] at e'
          cases e'
          obtain ⟨oc, ho, hd⟩ := z
          exact .inr ⟨lookup_relabel_free (S.free x hx), c, ec, oc, hk' c oc ho, hd⟩
  · obtain ⟨v, oc, ho, hd⟩ := I.cell x c (hcl x c e)
    exact ⟨v, oc, hk' c oc ho, hd⟩
  · have hp : p ∈ X.pn ++ pins ++ [(s.heap.objs.size, ob)] := (List.mem_append.mp hp).elim (fun z => List.mem_append_left _ (List.mem_append_left _ z)) id
    rcases List.mem_append.mp hp with hp | hp
    · obtain ⟨e, n, ne, nf, d⟩ := I.pin p hp
      refine ⟨hk' _ _ e, n, fun z => ?_, fun z => ?_, d⟩
      · have z' : p.1 = (s.heap.push ob).objs.size := z
        have h1 := Heap.lt_size e
        rw [z', hC] at h1
        exact Nat.lt_irrefl _ (Nat.lt_of_succ_lt h1)
      · rcases List.mem_cons.mp (I.stkSub p.1 z) with z1 | z1
        · exact ne z1
        · exact nf z1
    · have e : p = (s.heap.objs.size, ob) := by simpa using hp
      subst e
      refine ⟨hk _ _ (Heap.get?_push_size _ hfr), I.hok.fresh (Nat.le_refl _), fun z => ?_, fun z => ?_, hob⟩
      · have z' : s.heap.objs.size = (s.heap.push ob).objs.size := z
        omega
      · rcases List.mem_cons.mp (I.stkSub s.heap.objs.size z) with z1 | z1
        · exact absurd I.lt (by rw [← z1]; exact Nat.lt_irrefl _)
        · exact I.nofs (Nat.le_refl _) z1
  · show (List.replicate tn.length none ++ capσ σ caps).length = (tn ++ cn).length
    unfold capσ
    simp [hlen]
theorem comp_fin {N : List Str} {σ0 : St} {H' : Hp} {s' : Shared} {C : Addr} {s3 : Shared} {its : List Value} {n : Nat} {ys : List V} (I : Inv X pins σ H s) (hf : ∀ b ∈ fp, FpOk X pins H b) (hfp : ∀ b ∈ fp, b < s.heap.objs.size) (hC : s.heap.objs.size < C)
    (hs3 : ∀ b o, s.heap.get? b = some o → s3.heap.get? b = some o) (hos : s3.os = s.os)
    (I' : Inv (cxComp X scope cl N C (s.heap.objs.size :: fp) s3 H) (X.pn ++ pins ++ [(s.heap.objs.size, { cls := .type "list", data := .seq its.toArray n })]) σ0 H' s') (rv : Vals ys its) (hz : ys.length ≤ sizeLine) :
    Inv X pins σ (upd H' s.heap.objs.size (.lst ys)) s' ∧ H' s.heap.objs.size = none ∧ FpOk X pins (upd H' s.heap.objs.size (.lst ys)) C ∧ ∃ m, s'.heap.Ns C m := by
  have pD := I'.pin (s.heap.objs.size, { cls := .type "list", data := .seq its.toArray n }) (by show _ ∈ X.pn ++ (X.pn ++ pins ++ [_]); simp)
  have hD : H' s.heap.objs.size = none := pD.2.1
  have base : Un (frs X.stack) (s.heap.objs.size :: fp) H H' s3.heap s'.heap := I'.base
  have old : ∀ b o, s.heap.get? b = some o → b ≠ s.heap.objs.size := fun b o e => Nat.ne_of_lt (Heap.lt_size e)
  have nex : ∀ b o, s.heap.get? b = some o → b ∉ fp → b ∉ s.heap.objs.size :: fp := fun b o e h z => by
    rcases List.mem_cons.mp z with z | z
    · exact old b o e z
    · exact h z
  have oldT : ∀ b u, H b = some u → b ≠ s.heap.objs.size := fun b u e => Nat.ne_of_lt (I.hok.lt e)
  refine ⟨I.call' (ch := fp) (I'.os.trans hos) ⟨fun b o e n hb hx => base.keep b o (hs3 b o e) n hb (nex b o e hx), fun b o e n hb hx => base.slot b o (hs3 b o e) n hb (nex b o e hx), fun b o e n hx => ?_, fun b o e hx => base.there b o (hs3 b o e) (nex b o e hx),
    fun b xs e => ?_, fun b o u e => ?_, fun b ps e => ?_⟩ (fun a o e => ?_) I'.bare fun b hb => ?_, hD, I.fpOk (Nat.le_of_lt hC) ?_, ?_⟩
  · rw [upd_ne (old b o e)]; exact base.free b o (hs3 b o e) n (nex b o e hx)
  · rw [upd_ne (oldT b _ e)]; exact base.tups b xs e
  · rw [upd_ne (oldT b _ e)]; exact base.frzs b o u e
  · rw [upd_ne (oldT b _ e)]; exact base.tbls b ps e
  · by_cases ha : a = s.heap.objs.size
    · subst ha
      rw [upd_same] at e
      cases e
      exact ⟨hz, its, n, rv, pD.1⟩
    · rw [upd_ne ha] at e
      exact (I'.hok a o e).stay (fun _ _ _ q => q) (fun c q => by rw [upd_ne (ne_of_none q hD)]; exact q) fun c xs q => by rw [upd_ne (ne_of_none q hD)]; exact q
  · have q := hf b hb
    exact ⟨q.2.2.2.1, q.2.1, q.2.2.2.2.1, q.2.2.2.2.2⟩
  · rw [upd_ne (Nat.ne_of_gt hC)]; exact I'.free
  · obtain ⟨m, hn, _⟩ := I'.loc
    exact ⟨m, hn⟩
end
def PTs (X : Cx) (ifs : List Expr) (t : TT) : Prop :=
  ∀ (pins : List (Addr × Obj)) (s : Shared) (σ : St) (H : Hp) (Q : Bool → Hp → Prop), Inv X pins σ H s → t σ H Q →
    wpAny (model X.prog X.w) X.A (forIn ifs true fun c r => if r = true then do let ok ← isTrue c X.env (eval c X.env); pure (ForInStep.yield ok) else pure (ForInStep.yield r)) (TP X pins σ Q) X.xe s
def tYes : TT := fun _ H Q => Q true H
theorem pts_nil {X : Cx} : PTs X [] tYes := fun _ _ _ H _ I h => wpAny_tests_nil ⟨H, I, h⟩
theorem pts_one {X : Cx} {c : Expr} {t : TT} (h : PT X c t) : PTs X [c] t := fun pins s σ H Q I hw => wpAny_tests_one (h pins s σ H Q I hw)
theorem compLoop_own {prog : Program} {w : World} {A : Around} {R : Result → Shared → Prop} {s : Shared} {elt target iter : Expr} {ifs : List Expr} {scope : Scope} {pos : Pos} {it acc : Value} {env : Env} (I : Nat → Shared → Prop)
    (turn : ∀ n s, I n s → wpAny (model prog w) A (pyNext it) (fun r s₁ => match r with
      | none => R (.ok .next) s₁
      | some v => wpAny (model prog w) A (letOwnedTupleGo target it v) (fun _ s₁' => wpAny (model prog w) A (assign target env v) (fun _ s₂ =>
          wpAny (model prog w) A (forIn ifs true fun c r => if r = true then do let ok ← isTrue c env (eval c env); pure (ForInStep.yield ok) else pure (ForInStep.yield r)) (fun ok s₃ =>
            if ok = true then wpAny (model prog w) A (eval elt env) (fun x s₄ =>
              wpAny (model prog w) A (call (.builtin "list.append") [acc, x]) (fun _ s₅ => ∃ m, m < n ∧ I m s₅) (fun _ _ => False) s₄) (fun _ _ => False) s₃
            else ∃ m, m < n ∧ I m s₃) (fun _ _ => False) s₂) (fun _ _ => False) s₁') (fun _ _ => False) s₁) (fun _ _ => False) s)
    (n : Nat) (h : I n s) :
    codeAny (model prog w) A (.compLoop (.ListComp elt [⟨target, iter, ifs, 0⟩] scope pos) 0 it acc env) R s := by
  refine codeAny_loop rfl I (fun n s hI => ?_) n h
  show wpAny _ A ((compTurn (.ListComp elt [⟨target, iter, ifs, 0⟩] scope pos) 0 it acc env).onRaise (fun x => do noteFrame x env; theTreesLotGoes x)) _ _ s
  refine wpAny_noted ?_
  rw [compTurn_list]
  refine wpAny_bind (wpAny_standAt (wpAny_bind (wpAny_mono (turn n s hI) (fun r s₁ h₁ => ?_) fun _ _ h' => h'.elim)))
  cases r with
  | none => exact wpAny_pure h₁
  | some v =>
    refine wpAny_bind (wpAny_mono h₁ (fun _ s₁' h₁' => ?_) fun _ _ h' => h'.elim)
    refine wpAny_bind (wpAny_mono h₁' (fun _ s₂ h₂ => wpAny_bind (wpAny_mono h₂ (fun ok s₃ h₃ => ?_) fun _ _ h' => h'.elim)) fun _ _ h' => h'.elim)
    cases ok with
    | false => exact wpAny_pure ⟨rfl, h₃⟩
    | true =>
      exact wpAny_bind (wpAny_bind (wpAny_mono h₃ (fun x s₄ h₄ => wpAny_bind (wpAny_mono h₄ (fun _ s₅ h₅ => wpAny_pure (wpAny_pure ⟨rfl, h₅⟩)) fun _ _ h' => h'.elim)) fun _ _ h' => h'.elim))
def CompW (J : It) (g : TG) (tt : TT) (te : TE) (σ0 : St) (W : Nat → Nat → List V → Hp → Prop) (F : List V → Hp → Prop) : Prop :=
  ∀ i m ys H, W i m ys H → (J.stop i H ∧ ys.length ≤ sizeLine ∧ F ys H) ∨ (J.go i H ∧ ∃ N : List V → Hp → Prop, (∀ ys' H', N ys' H' → ∃ m', m' < m ∧ W (i + 1) m' ys' H') ∧
    ∀ x H', J.yld i H x H' → g x σ0 H' fun σ2 H2 => (σ2.length = σ0.length ∧ ∀ (j : Nat) (v : V), σ0[j]? = some (some v) → σ2[j]? = some (some v)) ∧
      tt σ2 H2 fun b H3 => if b = true then te σ2 H3 fun y H4 => ys.length ≤ sizeLine ∧ N (ys ++ [y]) H4 else N ys H3)
section
variable {X : Cx} {scope : Scope} {tn cn : List Str} {caps : List Nat}
theorem comp_block {tg iter elt : Expr} {ifs : List Expr} {pos : Pos} {g : TG} {tt : TT} {te : TE} {pins : List (Addr × Obj)} {σ : St} {H : Hp} {s : Shared} {it : Addr} {fp : List Addr} {tnn : Nat → Heap → Prop} {J : It} {cl : List (Str × Addr)}
    {W : Nat → Nat → List V → Hp → Prop} {F : List V → Hp → Prop} {m0 : Nat} {E : Value → Shared → Prop} {RR : Value → Addr → Result → Shared → Prop}
    (S : CompScope X scope tn cn caps) (hc : Calm X) (hcl : ∀ y c, cl.lookup y = some c → X.env.cells.lookup y = some c) (hcl2 : ∀ x ∈ scope.names, x.2 = .free → ∃ c, cl.lookup x.1 = some c)
    (hg : ∀ C ex s₀ H₀, PG (cxComp X scope cl (tn ++ cn) C ex s₀ H₀) tg g) (ht : ∀ C ex s₀ H₀, PTs (cxComp X scope cl (tn ++ cn) C ex s₀ H₀) ifs tt) (he : ∀ C ex s₀ H₀, PE (cxComp X scope cl (tn ++ cn) C ex s₀ H₀) elt te)
    (I : Inv X pins σ H s) (T : Turn X.prog X.w X.K tg J fp it tnn) (st : tnn 0 s.heap) (hf : ∀ b ∈ fp, FpOk X pins H b) (hW : CompW J g tt te (List.replicate tn.length none ++ capσ σ caps) W F) (w0 : W 0 m0 [] H)
    (hRR : ∀ D C s' H' ys m, H' D = none → F ys H' → Inv X pins σ (upd H' D (.lst ys)) s' → FpOk X pins (upd H' D (.lst ys)) C → s'.heap.Ns C m → RR (.ref D) C (.ok .next) s') :
    wpAny (model X.prog X.w) X.A (newList []) (fun acc s₃ => wpAny (model X.prog X.w) X.A (newFunctionEnv scope X.env.globals cl [] X.env.qual none .none (some X.env)) (fun cenv s₄ =>
      codeAny (model X.prog X.w) X.A (.compStart (.ListComp elt [⟨tg, iter, ifs, 0⟩] scope pos) 0 (.ref it) acc { cenv with scope := relabel scope X.env }) (RR acc cenv.locals) s₄) E s₃) E s := by
  have hfp : ∀ b ∈ fp, b < s.heap.objs.size := fun b hb => let ⟨o, e, _⟩ := T.obj 0 s.heap st b hb; Heap.lt_size e
  refine wpAny_newObj_type (wpAny_newFunctionEnv S.nocell (by intro y hy; simp at hy) (fun h₁ hns₁ hsb₁ => ?_) S.kind)
  dsimp only at hns₁ hsb₁ ⊢
  have hk : ∀ b o, (s.heap.push { cls := .type "list", dict := none, data := .seq ([] : List Value).toArray }).get? b = some o → h₁.get? b = some o := fun b o e =>
    hsb₁.extBut b o (Nat.ne_of_lt (Heap.lt_size e)) (Heap.get?_push_of_some _ e)
  have I1 := comp_inv (tk := s.toks + ([] : List (Str × Value)).length) S I hcl hcl2 hf hfp (ob := { cls := .type "list", dict := none, data := .seq ([] : List Value).toArray }) (fun v z => by cases z) rfl hns₁ hk
  have hC : (s.heap.push { cls := .type "list", dict := none, data := .seq ([] : List Value).toArray }).objs.size = s.heap.objs.size + 1 := by rw [Heap.size_push]
  generalize hCe : (s.heap.push { cls := .type "list", dict := none, data := .seq ([] : List Value).toArray }).objs.size = C at *
  have st1 : tnn 0 h₁ := T.keep 0 _ _ st fun b hb o e => hk b o (Heap.get?_push_of_some _ e)
  have hE : ∀ b o, s.heap.get? b = some o → ({ s with heap := s.heap.push { cls := .type "list", dict := none, data := .seq ([] : List Value).toArray } } : Shared).heap.get? b = some o := fun b o e => Heap.get?_push_of_some _ e
  generalize hs3 : ({ s with heap := s.heap.push { cls := .type "list", dict := none, data := .seq ([] : List Value).toArray } } : Shared) = s3 at *
  have hos : s3.os = s.os := by rw [← hs3]
  have hfp0 : ∀ b ∈ fp, H b = none := fun b hb => (hf b hb).1
  have stat : ∀ {its : List Value} {n : Nat} {H' : Hp}, (∀ b ∈ fp, H' b = none) → ∀ b ∈ fp, FpOk (cxComp X scope cl (tn ++ cn) C (s.heap.objs.size :: fp) s3 H) (X.pn ++ pins ++ [(s.heap.objs.size, { cls := .type "list", data := .seq its.toArray n })]) H' b := fun {its n H'} hn b hb => by
    have q := hf b hb
    have hlt := hfp b hb
    refine ⟨hn b hb, fun z => ?_, fun z => ?_, .inl (List.mem_cons_of_mem _ hb), fun x c e => q.2.2.2.2.1 x c (hcl x c e), fun p hp z => ?_⟩
    · have z' : b = C := z
      rw [z', hC] at hlt
      exact Nat.lt_irrefl _ (Nat.lt_of_succ_lt hlt)
    · rcases List.mem_cons.mp (I.stkSub b z) with z1 | z1
      · exact q.2.1 z1
      · exact q.2.2.1 z1
    · have hp : p ∈ X.pn ++ pins ++ [(s.heap.objs.size, _)] := (List.mem_append.mp hp).elim (fun z => List.mem_append_left _ (List.mem_append_left _ z)) id
      rcases List.mem_append.mp hp with hp | hp
      · exact q.2.2.2.2.2 p hp z
      · have e := List.mem_singleton.mp hp
        rw [e] at z
        have z' : s.heap.objs.size = b := z
        rw [← z'] at hlt
        exact Nat.lt_irrefl _ hlt
  have loop : ∀ s₄ : Shared, s₄ = { s with heap := h₁, toks := s.toks + ([] : List (Str × Value)).length } →
      codeAny (model X.prog X.w) X.A (.compLoop (.ListComp elt [⟨tg, iter, ifs, 0⟩] scope pos) 0 (.ref it) (.ref s.heap.objs.size) (compEnvC scope cl C X.env)) (RR (.ref s.heap.objs.size) C) s₄ := by
    rintro s₄ rfl
    refine compLoop_own (fun n s' => ∃ i ys its k H', Inv (cxComp X scope cl (tn ++ cn) C (s.heap.objs.size :: fp) s3 H) (X.pn ++ pins ++ [(s.heap.objs.size, { cls := .type "list", data := .seq (List.toArray its) k })]) (List.replicate tn.length none ++ capσ σ caps) H' s' ∧
      tnn i s'.heap ∧ (∀ b ∈ fp, H' b = none) ∧ Vals ys its ∧ W i n ys H') ?_ m0 ⟨0, [], [], 0, H, I1, st1, hfp0, .nil, w0⟩
    rintro n s5 ⟨i, ys, its, k, H5, I5, st5, fr5, rv5, w5⟩
    rcases hW i n ys H5 w5 with ⟨stop, hz, f5⟩ | ⟨go, Nw, hNw, step⟩
    · refine wpAny_mono (T.done (cxComp X scope cl (tn ++ cn) C (s.heap.objs.size :: fp) s3 H) rfl rfl rfl (calm_comp hc) i _ s5 _ H5 (fun _ _ => False) I5 (stat fr5) st5 stop) (fun r s6 h6 => ?_) fun _ _ z => z
      obtain ⟨hr, I6⟩ := h6
      subst hr
      obtain ⟨J1, J2, J3, m, J4⟩ := comp_fin I hf hfp (by omega) hE hos I6 rv5 hz
      exact hRR _ _ _ _ _ m J2 f5 J1 J3 J4
    · refine wpAny_mono (T.item (cxComp X scope cl (tn ++ cn) C (s.heap.objs.size :: fp) s3 H) rfl rfl rfl (calm_comp hc) i _ s5 _ H5 (fun _ _ => False) I5 (stat fr5) st5 go) (fun r s6 h6 => ?_) fun _ _ z => z
      obtain ⟨u, hr, h6⟩ := h6
      subst hr
      refine wpAny_mono h6 (fun _ s7 h7 => ?_) fun _ _ z => z
      obtain ⟨x, H7, I7, r7, y7, st7, fr7⟩ := h7
      have I7' := I7.pinned (stat fr7) (T.obj _ _ st7)
      refine wpAny_mono (hg C (s.heap.objs.size :: fp) s3 H _ s7 _ H7 x u _ I7' r7 (step x H7 y7)) (fun _ s8 h8 => ?_) fun _ _ z => z
      obtain ⟨σ8, H8, I8, ⟨hl8, hk8⟩, q8⟩ := h8
      have back : ∀ {H9 : Hp} {s9 : Shared}, Inv (cxComp X scope cl (tn ++ cn) C (s.heap.objs.size :: fp) s3 H) (X.pn ++ pins ++ [(s.heap.objs.size, { cls := .type "list", data := .seq (List.toArray its) k })] ++ pinsAt fp s7.heap) σ8 H9 s9 →
          tnn (i + 1) s9.heap ∧ (∀ b ∈ fp, H9 b = none) := fun {H9 s9} I9 => by
        refine ⟨T.keep _ _ _ st7 fun b hb o e => (I9.pin (b, o) (List.mem_append_right _ (List.mem_append_right _ (mem_pinsAt hb e)))).1, fun b hb => ?_⟩
        obtain ⟨o, e, d⟩ := T.obj _ _ st7 b hb
        exact (I9.pin (b, o) (List.mem_append_right _ (List.mem_append_right _ (mem_pinsAt hb e)))).2.1
      refine wpAny_mono (ht C (s.heap.objs.size :: fp) s3 H _ s8 σ8 H8 _ I8 q8) (fun ok s9 h9 => ?_) fun _ _ z => z
      obtain ⟨H9, I9, q9⟩ := h9
      cases ok with
      | false =>
        rw [if_neg (by decide)] at q9 ⊢
        obtain ⟨m', hm, w9⟩ := hNw _ _ q9
        obtain ⟨b1, b2⟩ := back I9
        exact ⟨m', hm, i + 1, ys, its, k, H9, I9.unpinned.weak hl8.symm hk8, b1, b2, rv5, w9⟩
      | true =>
        rw [if_pos rfl] at q9 ⊢
        refine wpAny_mono (he C (s.heap.objs.size :: fp) s3 H _ s9 σ8 H9 _ I9 q9) (fun yv s10 h10 => ?_) fun _ _ z => z
        obtain ⟨y, H10, I10, r10, hz10, n10⟩ := h10
        obtain ⟨m', hm, w10⟩ := hNw _ _ n10
        obtain ⟨b1, b2⟩ := back I10
        have pD := I10.pin (s.heap.objs.size, { cls := .type "list", data := .seq (List.toArray its) k }) (List.mem_append_right _ (List.mem_append_left _ (List.mem_append_right _ (List.mem_singleton.mpr rfl))))
        refine wpAny_list_append_plain (hsz := by rw [List.size_toArray, ← rv5.length]; exact hz10) ⟨k, pD.1⟩ fun h11 hl11 hs11 => ?_
        obtain ⟨k', e11⟩ := hl11
        have I10' : Inv (cxComp X scope cl (tn ++ cn) C (s.heap.objs.size :: fp) s3 H) (X.pn ++ pins) σ8 H10 s10 := I10.pins_of fun p hp => I10.pin p (List.mem_append_right _ (List.mem_append_left _ (List.mem_append_left _ hp)))
        have I11 := I10'.turned (t' := s10.toks) (h' := h11) (it := s.heap.objs.size) (fun b o hb e => hs11.extBut b o hb e) pD.2.1 pD.2.2.1 (.inl List.mem_cons_self) (fun x c e z => ?_) (fun p hp z => ?_)
        · refine ⟨m', hm, i + 1, ys ++ [y], its ++ [yv], k', H10, ?_, ?_, b2, rv5.append (.cons r10 .nil), w10⟩
          · refine (I11.pins_of fun p hp => ?_).weak hl8.symm hk8
            rcases List.mem_append.mp hp with hp | hp
            · exact I11.pin p (List.mem_append_right _ hp)
            · have e := List.mem_singleton.mp hp
              subst e
              refine ⟨?_, pD.2.1, pD.2.2.1, pD.2.2.2.1, fun v z => by cases z⟩
              show h11.get? s.heap.objs.size = _
              rw [e11]
              simp
          · refine T.keep _ _ _ b1 fun b hb o e => hs11.extBut b o (fun z => ?_) e
            have h1 := hfp b hb
            rw [z] at h1
            exact Nat.lt_irrefl _ h1
        · obtain ⟨v, q⟩ := I.cell x c (hcl x c e)
          exact absurd q.lt (by rw [z]; exact Nat.lt_irrefl _)
        · have hp : p ∈ X.pn ++ pins := (List.mem_append.mp hp).elim (fun z => List.mem_append_left _ z) id
          exact absurd (Heap.lt_size (I.pin p hp).1) (by rw [z]; exact Nat.lt_irrefl _)
  exact codeAny_compStart_list (loop _ rfl) (T.self X.A 0 _ _ _ st1 (loop _ rfl))
def tComp (wi : TI) (k : Nat) (caps : List Nat) (g : TG) (tt : TT) (te : TE) : TE := fun σ H Q => wi σ H fun J H1 => ∃ W : Nat → Nat → List V → Hp → Prop, (∃ m, W 0 m [] H1) ∧
  CompW J g tt te (List.replicate k none ++ capσ σ caps) W fun ys H' => ∀ D, H' D = none → Q (.ref D) (upd H' D (.lst ys))
theorem pe_comp {tg iter elt : Expr} {ifs : List Expr} {pos : Pos} {wi : TI} {g : TG} {tt : TT} {te : TE} (S : CompScope X scope tn cn caps) (hc : Calm X) (hi : PI X tg iter wi)
    (hg : ∀ cl C ex s₀ H₀, PG (cxComp X scope cl (tn ++ cn) C ex s₀ H₀) tg g) (ht : ∀ cl C ex s₀ H₀, PTs (cxComp X scope cl (tn ++ cn) C ex s₀ H₀) ifs tt) (he : ∀ cl C ex s₀ H₀, PE (cxComp X scope cl (tn ++ cn) C ex s₀ H₀) elt te)
    (hs : ∀ x, foldedSetIterable iter X.env x = pure x := by intro _; rfl) : PE X (.ListComp elt [⟨tg, iter, ifs, 0⟩] scope pos) (tComp wi tn.length caps g tt te) := by
  intro pins s σ H Q I h
  obtain ⟨cl, hcl0, hcl, hcl2⟩ := closureFor_some (scope := scope) (env := X.env) fun x hx hf => I.ok.has x.1 (S.caught x hx hf)
  rw [eval_ListComp]
  refine wpAny_comprehension_free (use := none) rfl hs hcl0 S.kind S.names (thn (hi pins s σ H _ I h) fun v s1 h1 => thn h1 fun itv s2 h2 => ?_)
  obtain ⟨it, fp, tnn, J, H2, e, I2, T, st2, f2, W, ⟨m0, w0⟩, turn⟩ := h2
  subst e
  refine comp_block (RR := fun acc C => compPost (model X.prog X.w) X.A X.xe none (EP X pins σ Q) acc C) S hc hcl hcl2 (hg cl) (ht cl) (he cl) I2 T st2 f2 turn w0 ?_
  intro D C s' H' ys m hD f I' fC hn
  refine ⟨m, hn, fun h' hs' => ?_⟩
  have I'' := I'.turned (t' := s'.toks) (h' := h') (it := C) (fun b o hb e => hs'.extBut b o hb e) fC.1 fC.2.1 fC.2.2.2.1 fC.2.2.2.2.1 fC.2.2.2.2.2
  exact ⟨.ref D, _, I'', rfl, f D hD⟩
def sComp (i : Nat) (wi : TI) (k : Nat) (caps : List Nat) (g : TG) (tt : TT) (te : TE) : TS := fun D σ H => wi σ H fun J H1 => ∃ W : Nat → Nat → List V → Hp → Prop, (∃ m, W 0 m [] H1) ∧
  CompW J g tt te (List.replicate k none ++ capσ σ caps) W fun ys H' => ∀ p, H' p = none → D.nx (σ.set i (some (.ref p))) (upd H' p (.lst ys))
theorem ps_comp {tg iter elt : Expr} {ifs : List Expr} {pos spos py : Pos} {y : Str} {i : Nat} {wi : TI} {g : TG} {tt : TT} {te : TE} (S : CompScope X scope tn cn caps) (hc : Calm X) (hN : X.N.Nodup) (hy : X.N[i]? = some y) (hl : X.env.scope.names.lookup y = some .local)
    (hi : PI X tg iter wi)
    (hg : ∀ cl C ex s₀ H₀, PG (cxComp X scope cl (tn ++ cn) C ex s₀ H₀) tg g) (ht : ∀ cl C ex s₀ H₀, PTs (cxComp X scope cl (tn ++ cn) C ex s₀ H₀) ifs tt) (he : ∀ cl C ex s₀ H₀, PE (cxComp X scope cl (tn ++ cn) C ex s₀ H₀) elt te)
    (hsw : swapsWith (.ListComp elt [⟨tg, iter, ifs, 0⟩] scope pos) (some (.Name y py)) spos.line X.env = pure true)
    (hs : ∀ x, foldedSetIterable iter X.env x = pure x := by intro _; rfl) : PS X (.Assign [.Name y py] (.ListComp elt [⟨tg, iter, ifs, 0⟩] scope pos) spos) (sComp i wi tn.length caps g tt te) := by
  intro pins s σ H D I h
  obtain ⟨cl, hcl0, hcl, hcl2⟩ := closureFor_some (scope := scope) (env := X.env) fun x hx hf => I.ok.has x.1 (S.caught x hx hf)
  rw [exec_Assign_Name_used _ _ _ _ hsw]
  refine wpAny_bind (wpAny_standAt (wpAny_bind ?_))
  show wpAny _ X.A (do let _ ← comprehension (.ListComp elt [⟨tg, iter, ifs, 0⟩] scope pos) scope X.env _ (newList []) false (eval iter X.env) (some (assign (.Name y py) X.env))) _ _ s
  refine wpAny_bind (wpAny_mono (wpAny_comprehension_free (use := some (assign (.Name y py) X.env)) (Q := fun _ s' => SP X pins D .next s') rfl hs hcl0 S.kind S.names
    (thn (hi pins s σ H _ I h) fun v s1 h1 => thn h1 fun itv s2 h2 => ?_)) (fun _ s' hq => wpAny_pure (wpAny_pure hq)) fun _ _ e => e)
  obtain ⟨it, fp, tnn, J, H2, e, I2, T, st2, f2, W, ⟨m0, w0⟩, turn⟩ := h2
  subst e
  refine comp_block (RR := fun acc C => compPost (model X.prog X.w) X.A X.xe (some (assign (.Name y py) X.env)) (fun _ s' => SP X pins D .next s') acc C) S hc hcl hcl2 (hg cl) (ht cl) (he cl) I2 T st2 f2 turn w0 ?_
  intro p C s' H' ys m hD f I' fC hn
  show wpAny _ X.A (assign (.Name y py) X.env (.ref p)) _ _ _
  refine wpAny_assign_Name (store_ok2 (v := .ref p) I' hN hy (.inl hl) rfl (fun s4 I4 ⟨a, hs4, ha⟩ => ?_) (.inr hl))
  have hCa : C ≠ a := by
    rcases ha with ha | ha
    · rw [ha]; exact fC.2.1
    · exact fun z => fC.2.2.2.2.1 y a ha z.symm
  refine ⟨m, hn.sameBut hs4 hCa, fun h' hs' => ?_⟩
  have I'' := I4.turned (t' := s4.toks) (h' := h') (it := C) (fun b o hb e => hs'.extBut b o hb e) fC.1 fC.2.1 fC.2.2.2.1 fC.2.2.2.2.1 fC.2.2.2.2.2
  exact ⟨_, _, I'', f p hD⟩
end
structure SrcIs (J : It) (H : Hp) (xs : List V) : Prop where
  go : ∀ i, i < xs.length → J.go i H
  yld : ∀ i x H', i < xs.length → J.yld i H x H' → H' = H ∧ xs[i]? = some x
  stop : J.stop xs.length H
theorem src_list {K : PySem.W.Frag} {H : Hp} {a : Addr} {xs : List V} (h : SqL K H a xs) : SrcIs (Itl K a) H xs :=
  ⟨fun i hi => ⟨xs, xs[i], h, by simp [hi]⟩, fun i x H' _ y => ⟨y.1, y.2 xs h⟩, ⟨xs, h, Nat.le_refl _⟩⟩
theorem src_range {H : Hp} {lo : Int} {n : Nat} : SrcIs (Itr lo n) H ((List.range n).map fun i => V.int (lo + (i : Nat))) :=
  ⟨fun i hi => (show i < n by simpa using hi), fun i x H' hi y => ⟨y.1, by
    have hi' : i < n := by simpa using hi
    have e : x = .int (lo + (i : Nat)) := y.2
    rw [e, List.getElem?_map, List.getElem?_range hi']; rfl⟩, by show n ≤ _; simp⟩
theorem keeps_name {x : V} {cs : St} : ((some x :: cs : St).length = (none :: cs : St).length) ∧ ∀ (j : Nat) (v : V), (none :: cs : St)[j]? = some (some v) → (some x :: cs : St)[j]? = some (some v) := by
  refine ⟨by simp, fun j v h => ?_⟩
  cases j with
  | zero => simp at h
  | succ j => simpa using h
theorem comp_pure {J : It} {H : Hp} {xs : List V} {tt : TT} {te : TE} {cs : St} {F : List V → Hp → Prop} (S : SrcIs J H xs) (p : V → Bool) (f : V → V) (htt : ∀ x ∈ xs, ∀ Q : Bool → Hp → Prop, Q (p x) H → tt (some x :: cs) H Q)
    (hte : ∀ x ∈ xs, p x = true → ∀ Q : VK, Q (f x) H → te (some x :: cs) H Q) (hn : xs.length ≤ sizeLine) (hF : F ((xs.filter p).map f) H) :
    ∃ W : Nat → Nat → List V → Hp → Prop, (∃ m, W 0 m [] H) ∧ CompW J (gName 0) tt te (none :: cs) W F := by
  refine ⟨fun i m ys H' => m = xs.length - i ∧ i ≤ xs.length ∧ H' = H ∧ ys = ((xs.take i).filter p).map f, ⟨xs.length, by simp, Nat.zero_le _, rfl, by simp⟩, ?_⟩
  rintro i m ys H' ⟨rfl, hi, rfl, rfl⟩
  have hlen : (((xs.take i).filter p).map f).length ≤ sizeLine := by
    rw [List.length_map]
    refine Nat.le_trans (List.length_filter_le _ _) ?_
    rw [List.length_take]
    omega
  by_cases hlt : i < xs.length
  · refine .inr ⟨S.go i hlt, fun ys' H'' => H'' = H' ∧ ys' = ((xs.take (i + 1)).filter p).map f, fun ys' H'' h => ⟨xs.length - (i + 1), by omega, rfl, hlt, h.1, h.2⟩, fun x H'' y => ?_⟩
    obtain ⟨rfl, hx⟩ := S.yld i x H'' hlt y
    have hm : x ∈ xs := List.mem_of_getElem? hx
    have htk : xs.take (i + 1) = xs.take i ++ [x] := by
      rw [List.take_add_one, hx]; rfl
    show _ ∧ _
    refine ⟨keeps_name, ?_⟩
    refine htt x hm _ ?_
    cases hp : p x with
    | true =>
      rw [if_pos rfl]
      refine hte x hm hp _ ⟨hlen, rfl, ?_⟩
      rw [htk, List.filter_append, List.map_append]
      simp [hp]
    | false =>
      rw [if_neg (by decide)]
      refine ⟨rfl, ?_⟩
      rw [htk, List.filter_append, List.map_append]
      simp [hp]
  · have e : i = xs.length := by omega
    subst e
    refine .inl ⟨S.stop, hlen, ?_⟩
    rw [List.take_length]
    exact hF
theorem cxK {CX : CXT} {P : Program} {w : World} {K : PySem.W.Frag} {mg : Str → Option Value} {base : Heap} {N : List Str} {qual : Str} {scope : Scope} {f : Addr} {cd : Value} {A : Around} {outer : List Env} {s : Shared} {H : Hp} {E : XK} : (cxOf CX P w K mg base N qual scope f cd A outer s H E).K = K := rfl
theorem cxA {CX : CXT} {P : Program} {w : World} {K : PySem.W.Frag} {mg : Str → Option Value} {base : Heap} {N : List Str} {qual : Str} {scope : Scope} {f : Addr} {cd : Value} {A : Around} {outer : List Env} {s : Shared} {H : Hp} {E : XK} : (cxOf CX P w K mg base N qual scope f cd A outer s H E).A = A.deeper (envOfC qual scope s.heap.objs.size f cd) := rfl
theorem cxKc {X : Cx} {scope : Scope} {cl : List (Str × Addr)} {N : List Str} {C : Addr} {ex : List Addr} {s₀ : Shared} {H₀ : Hp} : (cxComp X scope cl N C ex s₀ H₀).K = X.K := rfl
theorem cxAc {X : Cx} {scope : Scope} {cl : List (Str × Addr)} {N : List Str} {C : Addr} {ex : List Addr} {s₀ : Shared} {H₀ : Hp} : (cxComp X scope cl N C ex s₀ H₀).A = X.A := rfl
end L2
set_option Elab.async false
set_option linter.all false
set_option maxRecDepth 100000
namespace L2
open PySem PySem.Spec PyProof.Rows
def chr1 (c : Nat) : V := .str ⟨#[c]⟩
def Its (x : Str) : It := ⟨fun i _ => i < x.cps.size, fun i H v H' => H' = H ∧ ∃ c, x.cps[i]? = some c ∧ v = chr1 c, fun i _ => x.cps.size ≤ i⟩
theorem turn_str {P : Program} {w : World} {K : PySem.W.Frag} {tg : Expr} (it : Addr) (x : Str) (t : Tok) {ty : String} (hty : ty = "str_ascii_iterator" ∨ ty = "str_iterator") : Turn P w K tg (Its x) [it] it (fun i h => h.IsStrIter it ty x t i) where
  mem := by simp
  obj := fun i h st b hb => by
    have e : b = it := by simpa using hb
    subst e
    obtain ⟨o, e, c, d⟩ := st
    exact ⟨o, e, fun v z => by rw [d] at z; cases z⟩
  keep := fun i h h' st k => let ⟨o, e, r⟩ := st; ⟨o, k it (by simp) o e, r⟩
  item := by
    intro X hP hw hK hc i pins s σ H E I hf st hg
    subst hP hw hK
    have hi : i < x.cps.size := hg
    obtain ⟨f0, f1, f2, f3, f4, f5⟩ := hf it (by simp)
    have hx : x.cps[i]? = some x.cps[i] := by simp [hi]
    have fin : ∀ h', h'.IsStrIter it ty x t (i + 1) → Heap.SameBut it s.heap h' → ∃ u, some (Value.str ⟨#[x.cps[i]]⟩ s.toks) = some u ∧
        wpAny (model X.prog X.w) X.A (letOwnedTupleGo tg (.ref it) u) (fun _ s2 => ∃ y H', Inv X pins σ H' s2 ∧ RelV y u ∧ (Its x).yld i H y H' ∧ s2.heap.IsStrIter it ty x t (i + 1) ∧ ∀ b ∈ [it], H' b = none) E { s with heap := h', toks := s.toks + 1 } := fun h' st' sb => by
      have I1 : Inv X pins σ H { s with heap := h', toks := s.toks + 1 } := I.turned (fun b o hb e => (sb.2 b hb).trans e) f0 f1 f3 f4 f5
      obtain ⟨o, e, c, d⟩ := id st'
      refine ⟨_, rfl, go_of (s := { s with heap := h', toks := s.toks + 1 }) e c d ?_ ⟨chr1 x.cps[i], H, I1, ⟨_, rfl⟩, ⟨rfl, _, hx, rfl⟩, st', fun b hb => (hf b hb).1⟩⟩
      rcases hty with z | z <;> (subst z; decide)
    rcases hty with z | z
    · subst z; exact wpAny_pyNext_ascii_item st hx fin
    · subst z; exact wpAny_pyNext_wide_item st hx fin
  done := by
    intro X hP hw hK hc i pins s σ H E I hf st hg
    subst hP hw hK
    have hi : x.cps.size ≤ i := hg
    obtain ⟨f0, f1, f2, f3, f4, f5⟩ := hf it (by simp)
    have hx : x.cps[i]? = none := by simp [hi]
    have fin : ∀ h', Heap.ExtBut it s.heap h' → (none : Option Value) = none ∧ Inv X pins σ H { s with heap := h' } := fun h' eb => ⟨rfl, I.turned (t' := s.toks) (fun b o hb e => eb b o hb e) f0 f1 f3 f4 f5⟩
    rcases hty with z | z
    · subst z; exact chars_end (.inl rfl) (I.calm hc) st hx fin
    · subst z; exact chars_end (.inr rfl) (I.calm hc) st hx fin
  self := fun _ _ _ _ _ st h => by
    rcases hty with z | z
    · subst z; exact wpAny_pyIter_striter_ascii st h
    · subst z; exact wpAny_pyIter_striter_wide st h
def iStr (tl : TE) : TI := fun σ H R => tl σ H fun v H1 => ∃ x, v = .str x ∧ R (Its x) H1
theorem pi_str {X : Cx} {tg l : Expr} {tl : TE} (hl : PE X l tl) : PI X tg l (iStr tl) := by
  intro pins s σ H R I h
  refine thn (hl pins s σ H _ I h) fun v s1 ⟨y, H1, I1, r1, q1⟩ => ?_
  obtain ⟨x, e, q⟩ := q1
  subst e
  obtain ⟨t, rfl⟩ := r1
  have fin : ∀ ty, (ty = "str_ascii_iterator" ∨ ty = "str_iterator") → PIE X pins σ tg R (.ref s1.heap.objs.size) { s1 with heap := s1.heap.push { cls := .type ty, data := .fields #[.str x t, .int 0 0] } } := fun ty hty => by
    refine ⟨s1.heap.objs.size, [s1.heap.objs.size], _, _, H1, rfl, I1.kept (t' := s1.toks) fun b o e => Heap.get?_push_of_some _ e, turn_str _ x t hty, ⟨_, Heap.get?_push_size _ rfl, rfl, rfl⟩, fun b hb => ?_, q⟩
    have e : b = s1.heap.objs.size := by simpa using hb
    subst e
    exact I1.fpOk (Nat.le_refl _) (I1.hok.fresh (Nat.le_refl _))
  cases ha : x.cps.all (· < 128)
  · exact wpAny_pyIter_wide ha (fin _ (.inr rfl))
  · exact wpAny_pyIter_ascii ha (fin _ (.inl rfl))
theorem src_str {H : Hp} {x : Str} : SrcIs (Its x) H (x.cps.toList.map chr1) :=
  ⟨fun i hi => (show i < x.cps.size by simpa using hi), fun i v H' hi y => ⟨y.1, by
    obtain ⟨c, e1, e2⟩ := y.2
    rw [e2, List.getElem?_map, Array.getElem?_toList, e1]; rfl⟩, by show x.cps.size ≤ _; simp⟩
section
variable {X : Cx}
theorem op_in_chr : OpR X (compareOp .In) (fun x y H Q => ∃ c j, x = chr1 c ∧ y = .str j ∧ Q (.bl (decide (c ∈ j.cps.toList))) H) := by
  intro pins s σ H x y v u Q I rx ry h
  obtain ⟨c, j, rfl, rfl, q⟩ := h
  refine op_in_str pins s σ H _ _ v u Q I rx ry ⟨_, j, rfl, rfl, ?_⟩
  rw [PySem.StrLaws.found_one]
  exact q
theorem op_notin_chr : OpR X (compareOp .NotIn) (fun x y H Q => ∃ c j, x = chr1 c ∧ y = .str j ∧ Q (.bl (!decide (c ∈ j.cps.toList))) H) := by
  intro pins s σ H x y v u Q I rx ry h
  obtain ⟨c, j, rfl, rfl, q⟩ := h
  refine op_notin_str pins s σ H _ _ v u Q I rx ry ⟨_, j, rfl, rfl, ?_⟩
  rw [PySem.StrLaws.found_one]
  exact q
theorem op_mul_str : OpR X (binaryOp .Mult) (fun x y H Q => ∃ z n, x = .str z ∧ y = .int n ∧ MulOk z n ∧ Q (.str (Txt.mul z n)) H) := by
  intro pins s σ H x y v u Q I rx ry h
  obtain ⟨z, n, rfl, rfl, hok, q⟩ := h
  obtain ⟨t, rfl⟩ := rx
  obtain ⟨t', rfl⟩ := ry
  exact SB.mul hok fun t'' k => ⟨.str (Txt.mul z n), H, I.tok _, ⟨_, rfl⟩, q⟩
def tSlS (te : TE) (tl th : TO) : TE := fun σ H Q => te σ H fun x H1 => tl σ H1 fun l H2 => th σ H2 fun u H3 => ∃ z, x = .str z ∧ z.length ≤ sizeLine ∧ Q (.str (Txt.slice z l u)) H3
theorem pe_sliceS {e : Expr} {lo hi : Option Expr} {te : TE} {tl th : TO} {p2 pos : Pos} (he : PE X e te) (hl : PO X lo tl) (hu : PO X hi th) : PE X (.Subscript e (.Slice lo hi none p2) pos) (tSlS te tl th) := by
  intro pins s σ H Q I h
  refine Subscript_ (thn (he pins s σ H _ I h) fun v s1 ⟨x, H1, I1, r1, q1⟩ => ?_)
  refine wpAny_Slice (thn (hl pins s1 σ H1 _ I1 q1) fun vl s2 ⟨l, H2, I2, pl, q2⟩ => thn (hu pins s2 σ H2 _ I2 q2) fun vu s3 ⟨u, H3, I3, pu, q3⟩ => ?_)
  rw [evalPart_none]
  refine wpAny_pure ?_
  obtain ⟨z, rfl, hz, q⟩ := q3
  obtain ⟨t, rfl⟩ := r1
  show wpAny (model X.prog X.w) X.A (subscriptTail e (.Slice lo hi none p2) (.str z t) (.ref s3.heap.objs.size)) (EP X pins σ Q) X.xe { s3 with heap := s3.heap.push { cls := .type "slice", data := .fields #[vl, vu, .none] } }
  have hk : KeptH fun h' => ∀ b o, s3.heap.get? b = some o → h'.get? b = some o := fun h ob p b o e => Heap.get?_push_of_some _ (p b o e)
  have fin : ∀ h' t' k, (∀ b o, s3.heap.get? b = some o → h'.get? b = some o) → EP X pins σ Q (.str (Txt.slice z l u) t') { s3 with heap := h', toks := k } := fun h' t' k kp => ⟨.str (Txt.slice z l u), H3, I3.kept kp, ⟨t', rfl⟩, q⟩
  have hI : ItemOn (model X.prog X.w) X.A X.xe (.str z t) (.ref s3.heap.objs.size) (EP X pins σ Q) { s3 with heap := s3.heap.push { cls := .type "slice", data := .fields #[vl, vu, .none] } } := by
    cases pl with
    | none =>
      cases pu with
      | none => exact SBH.sliceItem_nn hk (fun b o e => e) fin hz
      | int => exact SBH.sliceItem_ns hk (fun b o e => e) fin hz
    | int =>
      cases pu with
      | none => exact SBH.sliceItem_sn hk (fun b o e => e) fin hz
      | int => exact SBH.sliceItem_ss hk (fun b o e => e) fin hz
  obtain ⟨T, id, hlk, hT, hg⟩ := hI
  exact tail_any (ops := [.ref s3.heap.objs.size, .str z t]) hT hlk hg (by with_unfolding_all rfl)
theorem all_range (bs : List Bool) : (List.range bs.length).all (fun i => bs.getD i false) = bs.all id := by
  rw [Bool.eq_iff_iff, List.all_eq_true, List.all_eq_true]
  constructor
  · intro h b hb
    obtain ⟨i, hi, e⟩ := List.mem_iff_getElem.mp hb
    have q := h i (List.mem_range.mpr hi)
    simpa [List.getD, hi, e] using q
  · intro h i hi
    have hi' := List.mem_range.mp hi
    have q := h bs[i] (List.getElem_mem hi')
    simpa [List.getD, hi'] using q
theorem call_all_list : CallR X (.builtin "all") (fun xs H Q => ∃ (a : Addr) (bs : List Bool), xs = [.ref a] ∧ X.A.handled = none ∧ SqL X.K H a (bs.map V.bl) ∧ Q (.bl (bs.all id)) H) := by
  intro pins s σ H xs us Q I r h
  obtain ⟨a, bs, rfl, hh, hq, q⟩ := h
  obtain ⟨u, rfl, ru⟩ := vals1 r
  cases ru
  obtain ⟨its, rv, p, hz⟩ := I.list hq
  have hl := rv.length
  rw [List.length_map] at hl
  obtain ⟨o, ho, _⟩ := id p.isList
  have hlt := Heap.lt_size ho
  refine call_all_walk (wpAny_pyIter_list p.isList ?_)
  refine ⟨s.heap.objs.size, _, _, _, _, _, fun i => bs.getD i false, rfl, Walks.list (A := X.A.in1) hh s.heap.objs.size a (Nat.ne_of_lt hlt) its.toArray, ⟨⟨_, Heap.get?_push_size _ rfl, rfl, rfl⟩, p.isList.at fun o e => Heap.get?_push_of_some _ e⟩, ?_, fun h' tk hk => ?_⟩
  · intro i v s' Q' E' hv hQ
    have hv : its.toArray[i]? = some v := hv
    have hi : its[i]? = some v := by simpa using hv
    have hib : i < bs.length := by rw [hl]; exact (List.getElem?_eq_some_iff.mp hi).1
    obtain ⟨u, hu, ru⟩ := rv.get (i := i) (x := V.bl bs[i]) (by simp [hib])
    rw [hi] at hu
    cases hu
    cases ru
    refine wpAny_truthy_bool ?_
    have e : bs.getD i false = bs[i] := by simp [List.getD, hib]
    rw [← e]
    exact hQ
  · rw [List.size_toArray, ← hl, all_range]
    refine ⟨.bl (bs.all id), H, I.kept fun b o e => ?_, rfl, q⟩
    exact hk b o (fun z => Nat.lt_irrefl _ (by have := Heap.lt_size e; rw [List.mem_singleton.mp z] at this; exact this)) (Heap.get?_push_of_some _ e)
def figs : Str := "0123456789"
def rIndex : V → List V → Hp → VK → Prop := fun x vs H Q => ∃ c, x = .str figs ∧ vs = [chr1 c] ∧ 48 ≤ c ∧ c ≤ 57 ∧ Q (.int ((c - 48 : Nat) : Int)) H
end
theorem str_app_list (x y : Str) : (x ++ y).cps.toList = x.cps.toList ++ y.cps.toList := by
  show (x.cps ++ y.cps).toList = _
  simp
theorem str_ext {x y : Str} (h : x.cps.toList = y.cps.toList) : x = y := by
  obtain ⟨a⟩ := x
  obtain ⟨b⟩ := y
  congr 1
  exact Array.toList_inj.mp h
theorem str_len_list (x : Str) : x.cps.toList.length = x.length := by simp [Str.length]
theorem slice_mem {x : Str} {l u : Option Int} {c : Nat} (h : c ∈ (Txt.slice x l u).cps.toList) : c ∈ x.cps.toList := by
  unfold Txt.slice at h
  split at h
  · exact h
  · have h : c ∈ (List.filterMap (fun i => x.cps[i]?) (Builtin.Str.strSliceIndices l u 1 x.length)).toArray.toList := h
    rw [List.toList_toArray] at h
    obtain ⟨i, _, e⟩ := List.mem_filterMap.mp h
    rw [← Array.getElem?_toList] at e
    exact List.mem_of_getElem? e
theorem foldl_app (a : Array Nat) : ∀ (k : Nat) (acc : Array Nat), ((List.replicate k a).foldl (· ++ ·) acc).toList = acc.toList ++ (List.replicate k a.toList).flatten
  | 0, acc => by simp
  | k + 1, acc => by
    rw [List.replicate_succ, List.foldl_cons, foldl_app a k, List.replicate_succ, List.flatten_cons]
    simp
theorem mul_list (x : Str) (n : Nat) : (Txt.mul x (n : Int)).cps.toList = (List.replicate n x.cps.toList).flatten := by
  unfold Txt.mul
  by_cases h1 : (n : Int) < 1
  · have h0 : n = 0 := by omega
    subst h0
    rw [if_pos h1]
    rfl
  · rw [if_neg h1]
    by_cases h2 : ((n : Int) == 1 || x.length == 0) = true
    · rw [if_pos h2]
      rcases Bool.or_eq_true_iff.mp h2 with h | h
      · have h0 : n = 1 := by have := eq_of_beq h; omega
        subst h0
        simp
      · have h0 : x.cps.toList = [] := List.length_eq_zero_iff.mp (by rw [str_len_list]; exact eq_of_beq h)
        rw [h0]
        have : ∀ k : Nat, (List.replicate k ([] : List Nat)).flatten = [] := fun k => by induction k with
          | zero => rfl
          | succ k ih => rw [List.replicate_succ, List.flatten_cons, ih]; rfl
        exact (this n).symm
    · rw [if_neg h2]
      show ((List.replicate (n : Int).toNat x.cps).foldl (· ++ ·) #[]).toList = _
      rw [foldl_app]
      simp
theorem mul_ok (x : Str) (n : Nat) (hn : n ≤ 100000) (h : x.length * n ≤ 100000) : MulOk x (n : Int) := by
  have hz : (100000 : Nat) ≤ sizeLine := by rw [sizeLine_eq]; decide
  refine ⟨?_, fun h1 h2 => ?_, fun h1 h2 => ?_⟩
  · rw [decide_eq_false (by omega), decide_eq_false (by omega)]; rfl
  · have hp : (0 : Int) < n := by omega
    rw [gt_iff_lt, Int.not_lt, Int.le_ediv_iff_mul_le hp]
    have e : ((x.length : Int)) * (n : Int) = ((x.length * n : Nat) : Int) := by simp
    rw [e]
    omega
  · unfold Builtin.Str.tooLong
    rw [Int.toNat_natCast]
    exact decide_eq_false (by omega)
end L2
set_option Elab.async false
set_option linter.all false
set_option maxRecDepth 100000
namespace L2
open PySem PySem.Spec PyProof.Rows
mutual
inductive Den (K : PySem.W.Frag) (H : Hp) : V → PyData → Prop
  | non : Den K H .non .none
  | bl (b : Bool) : Den K H (.bl b) (.bool b)
  | int (i : Int) : Den K H (.int i) (.int i)
  | str (x : Str) : Den K H (.str x) (.str x)
  | lst {a : Addr} {xs : List V} {ds : List PyData} : SqL K H a xs → DenAll K H xs ds → Den K H (.ref a) (.list ds)
  | tup {a : Addr} {xs : List V} {ds : List PyData} : SqT K H a xs → DenAll K H xs ds → Den K H (.ref a) (.tuple ds)
inductive DenAll (K : PySem.W.Frag) (H : Hp) : List V → List PyData → Prop
  | nil : DenAll K H [] []
  | cons {x : V} {xs : List V} {d : PyData} {ds : List PyData} : Den K H x d → DenAll K H xs ds → DenAll K H (x :: xs) (d :: ds)
end
section
variable {X : Cx} {pins : List (Addr × Obj)} {σ : St} {H : Hp} {s : Shared}
mutual
theorem Den.reads (I : Inv X pins σ H s) : ∀ {x : V} {d : PyData} {u : Value}, Den X.K H x d → RelV x u → ∃ as, Reads s.heap u d as
  | _, _, _, .non, r => by cases r; exact ⟨_, Reads.none⟩
  | _, _, _, .bl b, r => by cases r; exact ⟨_, Reads.bool b⟩
  | _, _, _, .int i, r => by obtain ⟨t, rfl⟩ := r; exact ⟨_, Reads.int i t⟩
  | _, _, _, .str x, r => by obtain ⟨t, rfl⟩ := r; exact ⟨_, Reads.str x t⟩
  | _, _, _, .lst h hs, r => by
    cases r
    obtain ⟨its, rv, p, hz⟩ := I.list h
    obtain ⟨as, q⟩ := DenAll.reads I hs rv
    obtain ⟨o, ho, hc, n, hd⟩ := p.isList
    exact ⟨_, reads_list_at ho hc hd (by simpa using q)⟩
  | _, _, _, .tup h hs, r => by
    cases r
    obtain ⟨its, rv, p, hz⟩ := I.tuple h
    obtain ⟨as, q⟩ := DenAll.reads I hs rv
    obtain ⟨o, ho, hc, n, hd⟩ := (show s.heap.IsTuple _ _ from p)
    exact ⟨_, reads_tuple_at ho hc hd (by simpa using q)⟩
theorem DenAll.reads (I : Inv X pins σ H s) : ∀ {xs : List V} {ds : List PyData} {us : List Value}, DenAll X.K H xs ds → Vals xs us → ∃ as, ReadsAll s.heap us ds as
  | _, _, _, .nil, r => by cases r; exact ⟨_, ReadsAll.nil⟩
  | _, _, _, .cons h hs, r => by
    cases r with
    | cons r rr =>
      obtain ⟨as, q⟩ := Den.reads I h r
      obtain ⟨bs, p⟩ := DenAll.reads I hs rr
      exact ⟨_, ReadsAll.cons q p⟩
end
def rEqD (K : PySem.W.Frag) (neg : Bool) : R2 := fun x y H Q => ∃ d e, Den K H x d ∧ Den K H y e ∧ SeqAt.shaped d = true ∧ SeqAt.shaped e = true ∧ Q (.bl (if neg then !PyData.eqv d e else PyData.eqv d e)) H
theorem op_neD (hu : X.A.units + 64 < cLine) : OpR X (compareOp .NotEq) (rEqD X.K true) := by
  intro pins s σ H x y v u Q I rx ry h
  obtain ⟨d, e, hd, he, sd, se, q⟩ := h
  obtain ⟨as, ra⟩ := hd.reads I rx
  obtain ⟨bs, rb⟩ := he.reads I ry
  exact ne_dataH ra rb sd se hu (fin_bl I q rfl)
end
theorem denAll_strs {K : PySem.W.Frag} {H : Hp} : ∀ ns : List Str, DenAll K H (ns.map V.str) (ns.map PyData.str)
  | [] => .nil
  | n :: r => .cons (.str n) (denAll_strs r)
theorem shaped_strs : ∀ ns : List Str, (∀ x ∈ ns, PyData.strOk x = true) → SeqAt.shaped (.list (ns.map PyData.str)) = true := by
  have a : ∀ ns : List Str, (∀ x ∈ ns, PyData.strOk x = true) → PyData.canLayAll0 (ns.map PyData.str) = true := by
    intro ns
    induction ns with
    | nil => intro _; rfl
    | cons x r ih => intro h; simp [PyData.canLayAll0, PyData.canLay0, h x List.mem_cons_self, ih fun y hy => h y (List.mem_cons_of_mem _ hy)]
  have b : ∀ ns : List Str, PyData.depthAll (ns.map PyData.str) = 0 := by
    intro ns
    induction ns with
    | nil => rfl
    | cons x r ih => simp [PyData.depthAll, PyData.depth, ih]
  intro ns h
  simp [SeqAt.shaped, PyData.canLay0, PyData.depth, a ns h, b ns]
section
variable {X : Cx}
theorem call_isinst : CallR X (.builtin "isinstance") (fun xs H Q => ∃ x n t b, xs = [x, .ty n] ∧ TyOf X.K H x t ∧ PySem.W.kitOne X.K t (.type n) = some b ∧ Q (.bl b) H) := by
  intro pins s σ H xs us Q I r h
  obtain ⟨x, n, t, b, rfl, ty, e, q⟩ := h
  obtain ⟨u, v, rfl, ru, rv⟩ := vals2 r
  cases rv
  exact isinst_ok I ru ty e fun tk => ⟨.bl b, H, I.tok _, rfl, q⟩
end
end L2
set_option Elab.async false
set_option linter.all false
set_option maxRecDepth 100000
namespace L2
open PySem PySem.Spec PyProof.Rows
namespace RevF
end RevF
section
variable {X : Cx}
def tJoinRev (K : PySem.W.Frag) (ts te : TE) : TE := fun σ H Q => ts σ H fun x H1 => ∃ sep : Str, x = .str sep ∧ te σ H1 fun y H2 => ∃ (l : Addr) (ys : List Str), y = .ref l ∧ SqL K H2 l (ys.map V.str) ∧ JoinOk sep ys.reverse = true ∧ Q (.str (Txt.join sep ys.reverse)) H2
end
end L2
set_option Elab.async false
set_option linter.all false
set_option maxRecDepth 100000
namespace L2
open PySem PySem.Spec PyProof.Rows
section
variable {X : Cx}
end
end L2
set_option Elab.async false
set_option linter.all false
set_option maxRecDepth 100000
namespace L2
open PySem PySem.Spec PyProof.Rows
theorem vis_of {X : Cx} {sc : Scope} {x : Str} (h : Vis sc x) (e : X.env.scope = sc := by rfl) : Vis X.env.scope x := e ▸ h
theorem gl_of {X : Cx} {sc : Scope} {x : Str} (h : sc.names.lookup x = some .globalImplicit) (e : X.env.scope = sc := by rfl) : Gl X x := by
  show X.env.scope.names.lookup x = _
  rw [e]
  exact h
theorem loc_of {X : Cx} {sc : Scope} {x : Str} (h : sc.names.lookup x = some .local ∨ sc.names.lookup x = some .cell) (e : X.env.scope = sc := by rfl) : Loc X.env.scope x := e ▸ h
def plainE : Expr → Bool
  | .Starred _ _ => false
  | _ => true
def plainAll : List Expr → Bool
  | [] => true
  | e :: r => plainE e && plainAll r
theorem stp {e : Expr} {es : List Expr} {env : Env} (h : plainE e = true) : starEach (e :: es) env = (false, eval e env) :: starEach es env := by
  cases e <;> first | rfl | cases h
theorem st1 {e : Expr} {env : Env} (h : plainE e = true) : starEach [e] env = [(false, eval e env)] := by
  rw [stp h]; rfl
theorem st2 {e d : Expr} {env : Env} (h : plainE e = true) (h2 : plainE d = true) : starEach [e, d] env = [(false, eval e env), (false, eval d env)] := by
  rw [stp h, st1 h2]
theorem anp {env : Env} {pos : Pos} : ∀ {es : List Expr}, plainAll es = true → (backTo pos (starEach es env)).any (·.1) = false
  | [], _ => rfl
  | e :: r, h => by
    have h' : (plainE e && plainAll r) = true := h
    rw [Bool.and_eq_true] at h'
    rw [stp h'.1]
    show (false || (backTo pos (starEach r env)).any (·.1)) = false
    rw [anp h'.2]
    rfl
end L2
set_option Elab.async false
set_option linter.all false
set_option maxRecDepth 100000
namespace HT
open PySem PyProof.Rows
section
variable {prog : Program} {w : World} {A : Around} {E : Value → Shared → Prop} {s : Shared}
end
end HT
namespace L2
open PySem PySem.Spec PyProof.Rows
theorem Same.seqT {K : PySem.W.Frag} {H H' : Hp} {a : Addr} {xs : List V} (e : Same H H') (h : SqT K H a xs) : SqT K H' a xs := by
  rcases h with (h | ⟨o, h⟩) | h
  · exact .inl (.inl (e _ _ h))
  · exact .inl (.inr ⟨o, e _ _ h⟩)
  · exact .inr h
section
variable {X : Cx}
def rSlA (K : PySem.W.Frag) : V → Option Int → Option Int → Hp → VK → Prop := fun x lo hi H Q => ∃ a xs, x = .ref a ∧ SqT K H a xs ∧
  ((HT.sIx xs.length 0 lo = 0 ∧ HT.sIx xs.length xs.length hi = xs.length) → Q (.ref a) H) ∧
  (¬ (HT.sIx xs.length 0 lo = 0 ∧ HT.sIx xs.length xs.length hi = xs.length) → ∀ p, H p = none → Q (.ref p) (upd H p (.tup (cutV xs lo hi))))
end
end L2
set_option Elab.async false
set_option linter.all false
set_option maxRecDepth 100000
namespace L2
open PySem PySem.Spec PyProof.Rows
def ForJ (J : It) (g : TG) (tb : TS) (D : Ends) (σ : St) (H1 : Hp) : Prop := ∃ W : Nat → Nat → St → Hp → Prop, (∃ m, W 0 m σ H1) ∧ ∀ i m σ H, W i m σ H →
  (J.stop i H ∧ D.nx σ H) ∨ (J.go i H ∧ ∃ N : St → Hp → Prop, (∀ σ' H', N σ' H' → ∃ m', m' < m ∧ W (i + 1) m' σ' H') ∧ ∀ x H', J.yld i H x H' → g x σ H' fun σ2 H2 => tb { D with nx := N, ct := N, bk := D.nx } σ2 H2)
theorem tFor_eq {wi : TI} {g : TG} {tb : TS} {D : Ends} {σ : St} {H : Hp} : tFor wi g tb D σ H = wi σ H fun J H1 => ForJ J g tb D σ H1 := rfl
theorem same_new {H : Hp} {p : Addr} {o : HO} (h : H p = none) : Same H (upd H p o) := fun b u e => by rw [upd_ne (ne_of_none e h)]; exact e
mutual
theorem eqv_self : ∀ d : PyData, d.canLay0 = true → PyData.eqv d d = true
  | .none, _ => rfl
  | .bool b, _ => by simp [PyData.eqv]
  | .int i, _ => by simp [PyData.eqv]
  | .str x, _ => by simp [PyData.eqv]
  | .list xs, h => by
    have h' : PyData.canLayAll0 xs = true := h
    show PyData.eqvAll xs xs = true
    exact eqvAll_self xs h'
  | .tuple xs, h => by
    have h' : PyData.canLayAll0 xs = true := h
    show PyData.eqvAll xs xs = true
    exact eqvAll_self xs h'
  | .dict _, h => by cases h
theorem eqvAll_self : ∀ ds : List PyData, PyData.canLayAll0 ds = true → PyData.eqvAll ds ds = true
  | [], _ => rfl
  | d :: r, h => by
    have h' : (PyData.canLay0 d && PyData.canLayAll0 r) = true := h
    rw [Bool.and_eq_true] at h'
    show (PyData.eqv d d && PyData.eqvAll r r) = true
    rw [eqv_self d h'.1, eqvAll_self r h'.2]
    rfl
end
end L2
set_option Elab.async false
set_option linter.all false
set_option maxRecDepth 100000
namespace HT
open PySem PyProof.Rows
section
variable {prog : Program} {w : World} {A : Around} {E : Value → Shared → Prop} {s : Shared}
theorem filterMap_all {α β : Type} {f : α → Option β} {g : α → β} : ∀ {l : List α}, (∀ m ∈ l, f m = some (g m)) → l.filterMap f = l.map g
  | [], _ => rfl
  | a :: r, h => by
    rw [List.filterMap_cons, h a List.mem_cons_self, List.map_cons, filterMap_all fun m hm => h m (List.mem_cons_of_mem _ hm)]
end
end HT
namespace L2
open PySem PySem.Spec PyProof.Rows
section
variable {X : Cx} {pos : Pos}
def gTupL (K : PySem.W.Frag) (n : Nat) (t : TGs) : TG := fun v σ H Q => ∃ a xs, v = .ref a ∧ SqL K H a xs ∧ xs.length = n ∧ t xs σ H Q
end
end L2
set_option Elab.async false
set_option linter.all false
set_option maxRecDepth 100000
namespace L2
open PySem PySem.Spec PyProof.Rows
theorem strsAre_of : ∀ {ys : List Str} {us : List Value}, Vals (ys.map V.str) us → StrsAre us ys := by
  intro ys
  induction ys with
  | nil => intro us r; rw [List.map_nil] at r; cases r; exact .nil
  | cons n ns ih =>
    intro us r
    rw [List.map_cons] at r
    cases r with
    | cons r1 r2 =>
      obtain ⟨t, e⟩ := r1
      subst e
      exact .cons n t (ih r2)
section
variable {X : Cx}
def rJoin (K : PySem.W.Frag) : V → List V → Hp → VK → Prop := fun x vs H Q => ∃ (sep : Str) (a : Addr) (ys : List Str), x = .str sep ∧ vs = [.ref a] ∧ SqL K H a (ys.map V.str) ∧ (ys.map (·.length)).sum + ys.length * sep.length ≤ 16777216 ∧ Q (.str (Txt.join sep ys)) H
theorem mt_join : MtR X "str.join" (rJoin X.K) := by
  intro pins s σ H x vs v us Q I rx rv h
  obtain ⟨sep, a, ys, rfl, rfl, hq, hok, q⟩ := h
  obtain ⟨t, rfl⟩ := rx
  obtain ⟨u, rfl, ru⟩ := rv.one
  cases ru
  obtain ⟨its, r, pl, hz⟩ := I.list hq
  exact join_list pl.isList (strsAre_of (by simpa using r)) hok fun t' k => ⟨.str (Txt.join sep ys), H, I.tok _, ⟨t', rfl⟩, q⟩
end
end L2
set_option Elab.async false
set_option linter.all false
set_option maxRecDepth 100000
namespace L2
open PySem PySem.Spec PyProof.Rows
section
variable {X : Cx} {K : PySem.W.Frag}
end
end L2
set_option Elab.async false
set_option linter.all false
set_option maxRecDepth 100000
namespace L2
open PySem PyProof.Rows PySem.Calls
def XAt (B : Heap) (e : Addr) (cls : Value) (dx : Option Addr) (fl : Value) (h : Heap) : Prop :=
  ∃ (vs : Array Value) (sl : Array (Option Value)) (T : Addr) (oT : Obj) (ts : Array Value), h.get? e = some ⟨cls, dx, .fields vs, sl⟩ ∧ vs[2]? = some Value.none ∧ vs[1]? = some (.ref T) ∧ B.get? T = none ∧ T ≠ e ∧ h.get? T = some oT ∧ oT.data = .fields ts ∧ ts[3]? = some fl
structure Fly (B : Heap) (l : List Env) (e : Addr) (cls : Value) (dx : Option Addr) (fl : Value) (h : Heap) : Prop where
  st : B.StaysIn h
  new : B.get? e = none
  fr : h.FunFrames B l
  at_ : XAt B e cls dx fl h
section
variable {M : Model} {A : Around} {E : Value → Shared → Prop} {s : Shared} {B : Heap} {env : Env} {outer l : List Env} {L e : Addr} {cls : Value} {dx : Option Addr} {Q : Unit → Shared → Prop}
theorem place_laid {vs : Array Value} {sl : Array (Option Value)} {head : Value} {had : Bool} (hfr : A.frames = some (env :: outer)) (hf : env.frame = some L) (st : B.StaysIn s.heap) (hn : B.get? e = none) (fr : s.heap.FunFrames B (env :: outer))
    (he : s.heap.get? e = some ⟨cls, dx, .fields vs, sl⟩) (h2 : vs[2]? = some Value.none) (k : ∀ h', Fly B (env :: outer) e cls dx (rawInt L) h' → s.heap.UpToSlots h' → Q () { s with heap := h' }) :
    wpAny M A (frameOf env >>= fun a => entryPlaceOf L had >>= fun pl => EntryCells.newEntry head a .none (rawInt L) .none pl >>= fun b => setField (.ref e) 1 b) Q E s := by
  have sz2 : 2 < vs.size := (Array.getElem?_eq_some_iff.mp h2).1
  have nof : e ∉ (env :: outer).filterMap (·.frame) := fun hm => by
    obtain ⟨_, o, ho, hnf⟩ := fr.mem hm
    rw [he] at ho
    cases ho
    exact hnf vs rfl
  refine wpAny_bind (wpAny_frameOf_fun hfr fr hf fun h₁ hs => ?_)
  refine wpAny_bind (wpAny_entryPlaceOf fun pl hpl => ?_)
  unfold EntryCells.newEntry newFields
  refine wpAny_bind (wpAny_newObj_type ?_ (hpl.sizeOk5 _ _ _ _ _))
  have e1 : h₁.get? e = some ⟨cls, dx, .fields vs, sl⟩ := (hs.2.1 e nof).trans he
  have st1 : B.StaysIn h₁ := fun b o q => (hs.2.1 b fun hm => by rw [(fr.mem hm).1] at q; cases q).trans (st b o q)
  refine wpAny_setField (Heap.get?_push_of_some _ e1) rfl (Nat.lt_trans (by decide) sz2) (k _ ?_ ?_)
  all_goals have ne : h₁.objs.size ≠ e := Nat.ne_of_gt (Heap.lt_size e1)
  · refine ⟨fun b o q => ?_, hn, fr.of_keeps fun b o q nf => ?_, ⟨vs.setIfInBounds 1 (.ref h₁.objs.size), sl, h₁.objs.size, _, _, ?_, ?_, ?_, st1.fresh, ne, (Heap.get?_update_other _ _ (Ne.symm ne)).trans (Heap.get?_push_size h₁ rfl), rfl, ?_⟩⟩
    · rw [Heap.get?_update_other _ _ (fun z => by rw [← z, hn] at q; cases q)]
      exact Heap.get?_push_of_some _ (st1 b o q)
    · obtain ⟨sl', hb⟩ := hs.2.2 b o q
      refine ⟨{ o with slots := sl' }, ?_, rfl⟩
      rw [Heap.get?_update_other _ _ (fun z => by rw [← z, he] at q; cases q; exact nf vs rfl)]
      exact Heap.get?_push_of_some _ hb
    · exact Heap.get?_update_self _ (Heap.get?_push_of_some _ e1) rfl
    · rw [Array.getElem?_setIfInBounds_ne (by decide)]
      exact h2
    · simp [Nat.lt_trans (show 1 < 2 by decide) sz2]
    · first | (simp; done) | (rcases hpl with rfl | ⟨_, _, _, _, _, _, _, rfl⟩ <;> simp)
  · intro b o q nf
    obtain ⟨sl', hb⟩ := hs.2.2 b o q
    refine ⟨sl', ?_⟩
    rw [Heap.get?_update_other _ _ (fun z => by rw [← z, he] at q; cases q; exact nf vs rfl)]
    exact Heap.get?_push_of_some _ hb
theorem note_first {vs : Array Value} {sl : Array (Option Value)} (hfr : A.frames = some (env :: outer)) (hf : env.frame = some L) (st : B.StaysIn s.heap) (hn : B.get? e = none) (fr : s.heap.FunFrames B (env :: outer))
    (he : s.heap.get? e = some ⟨cls, dx, .fields vs, sl⟩) (h2 : vs[2]? = some Value.none) (h1 : vs[1]? = some Value.none) (k : ∀ h', Fly B (env :: outer) e cls dx (rawInt L) h' → s.heap.UpToSlots h' → Q () { s with heap := h' }) :
    wpAny M A (noteFrame (.ref e) env) Q E s := by
  unfold noteFrame
  simp only [hf]
  refine wpAny_bind (wpAny_field he rfl h1 ?_)
  rw [if_neg (by decide)]
  exact place_laid hfr hf st hn fr he h2 k
theorem note_more (hfr : A.frames = some (env :: outer)) (hf : env.frame = some L) (f : Fly B (env :: outer) e cls dx .none s.heap) (k : ∀ h', Fly B (env :: outer) e cls dx (rawInt L) h' → s.heap.UpToSlots h' → Q () { s with heap := h' }) :
    wpAny M A (noteFrame (.ref e) env) Q E s := by
  obtain ⟨st, hn, fr, vs, sl, T, oT, ts, he, h2, h1, nT, ne, hT, dT, t3⟩ := f
  unfold noteFrame
  simp only [hf]
  refine wpAny_bind (wpAny_field he rfl h1 ?_)
  rw [if_pos (by simp)]
  refine wpAny_bind (wpAny_field hT dT t3 ?_)
  rw [if_neg (by simp [rawInt])]
  refine wpAny_bind (wpAny_setField hT dT (Array.getElem?_eq_some_iff.mp t3).1 ?_)
  have other : ∀ b o, b ≠ T → s.heap.get? b = some o → (s.heap.update T (Obj.mapFields (·.setIfInBounds 3 Value.none))).get? b = some o := fun b o hb z => by
    rw [Heap.get?_update_other _ _ (Ne.symm hb)]
    exact z
  have noT : ∀ b o, s.heap.get? b = some o → (∀ ws, o.data ≠ .fields ws) → b ≠ T := fun b o q nf z => by
    rw [z, hT] at q
    cases q
    exact nf ts dT
  refine place_laid (s := { s with heap := _ }) hfr hf (fun b o q => other b o (fun z => by rw [z, nT] at q; cases q) (st b o q)) hn (fr.of_keeps fun b o q nf => ⟨o, other b o (noT b o q nf) q, rfl⟩) (other e _ (Ne.symm ne) he) h2 fun h' f' u => k h' f' fun b o q nf => ?_
  exact u b o (other b o (noT b o q nf) q) nf
theorem land {fl : Value} (f : Fly B l e cls dx fl s.heap) (k : ∀ h', Fly B l e cls dx .none h' → s.heap.UpToSlots h' → Q () { s with heap := h' }) : wpAny M A (setFlight (.ref e) none) Q E s := by
  obtain ⟨st, hn, fr, vs, sl, T, oT, ts, he, h2, h1, nT, ne, hT, dT, t3⟩ := f
  unfold setFlight
  refine wpAny_bind (wpAny_field he rfl h1 ?_)
  rw [if_pos (by simp)]
  have sz := (Array.getElem?_eq_some_iff.mp t3).1
  have other : ∀ b o, b ≠ T → s.heap.get? b = some o → (s.heap.update T (Obj.mapFields (·.setIfInBounds 3 Value.none))).get? b = some o := fun b o hb z => by
    rw [Heap.get?_update_other _ _ (Ne.symm hb)]
    exact z
  have noT : ∀ b o, s.heap.get? b = some o → (∀ ws, o.data ≠ .fields ws) → b ≠ T := fun b o q nf z => by
    rw [z, hT] at q
    cases q
    exact nf ts dT
  refine wpAny_setField hT dT sz (k _ ⟨fun b o q => other b o (fun z => by rw [z, nT] at q; cases q) (st b o q), hn, fr.of_keeps fun b o q nf => ⟨o, other b o (noT b o q nf) q, rfl⟩, vs, sl, T, _, _, other e _ (Ne.symm ne) he, h2, h1, nT, ne, Heap.get?_update_self _ hT (Obj.isFreed_of_fields (Obj.data_mapFields dT _)), Obj.data_mapFields dT _, ?_⟩ fun b o q nf => ⟨o.slots, other b o (noT b o q nf) q⟩)
  simp [sz]
theorem Fly.tail {fl : Value} {h : Heap} (f : Fly B (env :: outer) e cls dx fl h) : Fly B outer e cls dx fl h := ⟨f.st, f.new, f.fr.2.2, f.at_⟩
theorem leave_first {vs : Array Value} {sl : Array (Option Value)} (hfr : A.frames = some (env :: outer)) (hf : env.frame = some L) (st : B.StaysIn s.heap) (hn : B.get? e = none) (fr : s.heap.FunFrames B (env :: outer))
    (he : s.heap.get? e = some ⟨cls, dx, .fields vs, sl⟩) (h2 : vs[2]? = some Value.none) (h1 : vs[1]? = some Value.none) (k : ∀ h', Fly B outer e cls dx .none h' → s.heap.UpToSlots h' → Q () { s with heap := h' }) :
    wpAny M A (leaving env (.ref e)) Q E s := by
  unfold leaving
  exact wpAny_bind (note_first hfr hf st hn fr he h2 h1 fun h' f u => land f fun h2 f2 u2 => k h2 f2.tail (u.trans u2))
theorem leave_more (hfr : A.frames = some (env :: outer)) (hf : env.frame = some L) (f : Fly B (env :: outer) e cls dx .none s.heap) (k : ∀ h', Fly B outer e cls dx .none h' → s.heap.UpToSlots h' → Q () { s with heap := h' }) :
    wpAny M A (leaving env (.ref e)) Q E s := by
  unfold leaving
  exact wpAny_bind (note_more hfr hf f fun h' f u => land f fun h2 f2 u2 => k h2 f2.tail (u.trans u2))
end
end L2
set_option Elab.async false
set_option linter.all false
set_option maxRecDepth 100000
namespace L2
open PySem PySem.Spec PyProof.Rows
theorem ObjOk.some {P : Program} {w : World} {H : Hp} {h : Heap} {a : Addr} {o : HO} (x : ObjOk P w H h a o) : ∃ u, h.get? a = some u := by
  cases o with
  | lst xs => obtain ⟨_, _, _, _, e⟩ := x; exact ⟨_, e⟩
  | tup xs => obtain ⟨_, _, _, o, e, _⟩ := x; exact ⟨_, e⟩
  | dK kvs => obtain ⟨_, _, _, _, o, _, _, e, _⟩ := x; exact ⟨_, e⟩
  | dT kvs => obtain ⟨_, _, _, _, o, _, _, e, _⟩ := x; exact ⟨_, e⟩
  | set S n => obtain ⟨o, _, _, _, e, _⟩ := x; exact ⟨_, e⟩
  | ins C dx fs => obtain ⟨_, _, _, e, _⟩ := x; exact ⟨_, e⟩
  | own y => exact x
  | xd fs => obtain ⟨_, ⟨_, _, _, e, _⟩, _⟩ := x; exact ⟨_, e⟩
  | rng lo hi => obtain ⟨_, _, _, e⟩ := x; exact ⟨_, e⟩
  | frz ob u => obtain ⟨e, _⟩ := x; exact ⟨_, e⟩
  | tbl ps => exact ⟨_, x⟩
  | met f y => exact ⟨_, x⟩
  | ext φ => obtain ⟨_, e, _⟩ := x; exact e
structure UnB (fs : List Addr) (H H' : Hp) (h B : Heap) : Prop where
  keep : ∀ b o, h.get? b = some o → H b = none → b ∉ fs → B.get? b = some o
  free : ∀ b o, h.get? b = some o → H b = none → H' b = none
  there : ∀ b o, h.get? b = some o → b ∉ fs → ∃ o', B.get? b = some o'
  tups : ∀ b xs, H b = some (.tup xs) → H' b = some (.tup xs)
  frzs : ∀ b o u, H b = some (.frz o u) → H' b = some (.frz o u)
  tbls : ∀ b ps, H b = some (.tbl ps) → ∃ more, H' b = some (.tbl (ps ++ more))
theorem UnB.un {fs : List Addr} {H H' : Hp} {h B h3 : Heap} (u : UnB fs H H' h B) (st : B.StaysIn h3) (sl : ∀ b o, b ∈ fs → h.get? b = some o → ∃ sl, h3.get? b = some { o with slots := sl }) : Un fs [] H H' h h3 where
  keep := fun b o e n hb _ => st _ _ (u.keep b o e n hb)
  slot := fun b o e n hb _ => sl b o hb e
  free := fun b o e n _ => u.free b o e n
  there := fun b o e _ => by
    by_cases hb : b ∈ fs
    · obtain ⟨_, z⟩ := sl b o hb e
      exact ⟨_, z⟩
    · obtain ⟨o', z⟩ := u.there b o e hb
      exact ⟨o', st _ _ z⟩
  tups := u.tups
  frzs := u.frzs
  tbls := u.tbls
def CXE (P : Program) (w : World) : CXT := fun outer H s E e s' =>
  ∃ (ea : Addr) (cls : Value) (dx : Option Addr) (H' : Hp) (B : Heap), e = .ref ea ∧ s'.os = s.os ∧ AllBare s'.gens ∧ Fly B outer ea cls dx .none s'.heap ∧ HOk P w H' B ∧ UnB (frs outer) H H' s.heap B ∧
    (∀ b o, b ∈ frs outer → s.heap.get? b = some o → ∃ sl, s'.heap.get? b = some { o with slots := sl }) ∧ E cls dx H'
abbrev WXT := St → XK
structure XC (X : Cx) (WX : WXT) : Prop where
  pass : ∀ (pins : List (Addr × Obj)) (σ : St) (H : Hp) (s : Shared) (e : Value) (s' : Shared), Inv X pins σ H s → CXE X.prog X.w X.stack H s (WX σ) e s' → X.xe e s'
structure XW (X : Cx) (WX : WXT) : Prop extends XC X WX where
  raise : ∀ (pins : List (Addr × Obj)) (σ : St) (H : Hp) (s : Shared) (h' : Heap) (e : Addr) (cls : Value) (args : List Value), Inv X pins σ H s → Heap.MadeExcOf s.heap h' e cls args → WX σ cls none H → X.xe (.ref e) { s with heap := h' }
def noW : WXT := fun _ _ _ _ => False
section
variable {P : Program} {w : World} {K : PySem.W.Frag} {mg : Str → Option Value} {base : Heap} {N : List Str} {qual : Str} {scope : Scope} {f : Addr} {cd : Value} {A : Around} {outer : List Env} {s₀ : Shared} {H₀ : Hp} {E : XK}
theorem hok_hide {H : Hp} {h : Heap} {l : List Addr} (ok : HOk P w H h) (fr : ∀ b ∈ l, H b = none) : HOk P w H (PySem.W.hideAll h l) := fun a o e =>
  (ok a o e).stay (fun b u hb q => PySem.W.hideAll_get _ q fun z => by
    have n := fr b z
    rcases hb with rfl | hb
    · rw [n] at e; cases e
    · rw [n] at hb; cases hb) (fun _ q => q) fun _ _ q => q
theorem xw_fn : XW (cxOf (CXE P w) P w K mg base N qual scope f cd A outer s₀ H₀ E) (fun _ => E) where
  raise := fun pins σ H s h' e cls args I mk hE => by
    have hst : (cxOf (CXE P w) P w K mg base N qual scope f cd A outer s₀ H₀ E).stack = envOfC qual scope s₀.heap.objs.size f cd :: outer := rfl
    have stF := I.stkFree
    have stS := I.stack
    rw [hst] at stF stS
    obtain ⟨t, he, _, _⟩ := mk.there
    have hn : (PySem.W.hideAll s.heap (frs (envOfC qual scope s₀.heap.objs.size f cd :: outer))).get? e = none := by
      cases q : (PySem.W.hideAll s.heap (frs (envOfC qual scope s₀.heap.objs.size f cd :: outer))).get? e with
      | none => rfl
      | some o => have := PySem.W.of_hideAll _ q; rw [mk.new] at this; cases this
    have fr0 : s.heap.FunFrames (PySem.W.hideAll s.heap (frs (envOfC qual scope s₀.heap.objs.size f cd :: outer))) (envOfC qual scope s₀.heap.objs.size f cd :: outer) :=
      PySem.W.funFrames_hide stS fun env he a ha => List.mem_filterMap.mpr ⟨env, he, ha⟩
    show wpAny (model P w) (A.deeper (envOfC qual scope s₀.heap.objs.size f cd)) (leaving (envOfC qual scope s₀.heap.objs.size f cd) (.ref e)) _ _ _
    refine leave_first (s := { s with heap := h' }) (B := PySem.W.hideAll s.heap (frs (envOfC qual scope s₀.heap.objs.size f cd :: outer))) (env := envOfC qual scope s₀.heap.objs.size f cd) (outer := outer) (L := s₀.heap.objs.size) I.ok.frames rfl (fun b o q => mk.keeps b o (PySem.W.of_hideAll _ q)) hn (fr0.of_keeps fun b o q _ => ⟨o, mk.keeps b o q, rfl⟩) he rfl rfl fun h2 fl up => ?_
    have nst : ∀ b o, s₀.heap.get? b = some o → b ∉ frs outer → b ∉ frs (envOfC qual scope s₀.heap.objs.size f cd :: outer) := fun b o q n z => by
      rcases List.mem_cons.mp (show b ∈ s₀.heap.objs.size :: frs outer from z) with z | z
      · exact absurd (Heap.lt_size q) (by rw [z]; exact Nat.lt_irrefl _)
      · exact n z
    refine ⟨e, cls, none, H, _, rfl, I.os, I.bare, fl, hok_hide I.hok stF, ⟨fun b o q n nf => PySem.W.hideAll_get _ (I.base.keep b o q n nf (fun z => nomatch z)) (nst b o q nf), fun b o q n => I.base.free b o q n (fun z => nomatch z), fun b o q nf => ?_, I.base.tups, I.base.frzs, I.base.tbls⟩, fun b o hb q => ?_, hE⟩
    · obtain ⟨o', q'⟩ := I.base.there b o q (fun z => nomatch z)
      exact ⟨o', PySem.W.hideAll_get _ q' (nst b o q nf)⟩
    · obtain ⟨_, o', q', nf⟩ := I.ok.funs.mem hb
      obtain rfl : o = o' := Option.some.inj ((show s₀.heap.get? b = some o from q).symm.trans q')
      obtain ⟨sl, z⟩ := I.base.slot b o q (I.ok.frf b hb) hb (fun z => nomatch z)
      exact up b { o with slots := sl } (mk.keeps _ _ z) nf
  pass := fun pins σ H s e s' I z => by
    obtain ⟨ea, cls, dx, H', B, rfl, os, bare, fl, hok, u, slo, hE⟩ := z
    have fl : Fly B (envOfC qual scope s₀.heap.objs.size f cd :: outer) ea cls dx .none s'.heap := fl
    show wpAny (model P w) (A.deeper (envOfC qual scope s₀.heap.objs.size f cd)) (leaving (envOfC qual scope s₀.heap.objs.size f cd) (.ref ea)) _ _ _
    refine leave_more (L := s₀.heap.objs.size) I.ok.frames rfl fl fun h2 fl2 up => ?_
    have nst : ∀ b o, s₀.heap.get? b = some o → b ∉ frs outer → b ∉ frs (envOfC qual scope s₀.heap.objs.size f cd :: outer) := fun b o q n z => by
      rcases List.mem_cons.mp (show b ∈ s₀.heap.objs.size :: frs outer from z) with z | z
      · exact absurd (Heap.lt_size q) (by rw [z]; exact Nat.lt_irrefl _)
      · exact n z
    refine ⟨ea, cls, dx, H', B, rfl, os.trans I.os, bare, fl2, hok, ⟨fun b o q n nf => u.keep b o (I.base.keep b o q n nf (fun z => nomatch z)) (I.base.free b o q n (fun z => nomatch z)) (nst b o q nf), fun b o q n => ?_, fun b o q nf => ?_, fun b xs q => u.tups b xs (I.base.tups b xs q), fun b o x q => u.frzs b o x (I.base.frzs b o x q), fun b ps q => ?_⟩, fun b o hb q => ?_, hE⟩
    · obtain ⟨o', q'⟩ := I.base.there b o q (fun z => nomatch z)
      exact u.free b o' q' (I.base.free b o q n (fun z => nomatch z))
    · obtain ⟨o', q'⟩ := I.base.there b o q (fun z => nomatch z)
      exact u.there b o' q' (nst b o q nf)
    · obtain ⟨m1, e1⟩ := I.base.tbls b ps q
      obtain ⟨m2, e2⟩ := u.tbls b _ e1
      exact ⟨m1 ++ m2, by rw [e2, Array.append_assoc]⟩
    · obtain ⟨_, o', q', nf⟩ := I.ok.funs.mem hb
      obtain rfl : o = o' := Option.some.inj ((show s₀.heap.get? b = some o from q).symm.trans q')
      obtain ⟨sl, z⟩ := I.base.slot b o q (I.ok.frf b hb) hb (fun z => nomatch z)
      obtain ⟨sl2, z2⟩ := slo b _ (show b ∈ s₀.heap.objs.size :: frs outer from List.mem_cons_of_mem _ hb) z
      exact up b { o with slots := sl2 } z2 nf
end
def tCallX (sp : Sp) (dvs : List V) (WX : WXT) (t : TA) : TE := fun σ H Q => t σ H fun vs H1 => sp (vs ++ dvs) H1 Q (WX σ)
def tMethX (C : Addr) (m : Str) (sp : Sp) (dvs : List V) (WX : WXT) (ta : TE) (t : TA) : TE := fun σ H Q => ta σ H fun x H1 => ∃ a dx fs, x = .ref a ∧ H1 a = some (.ins C dx fs) ∧ fs.lookup m = none ∧ t σ H1 fun vs H2 => sp (x :: (vs ++ dvs)) H2 Q (WX σ)
def tMakeX (C : Addr) (sp : Sp) (dvs : List V) (WX : WXT) (t : TA) : TE := fun σ H Q => t σ H fun vs H1 => ∀ x dx, H1 x = none → H1 dx = none → dx ≠ x →
  sp (.ref x :: (vs ++ dvs)) (upd (upd H1 dx (.own x)) x (.ins C dx [])) (fun v H2 => v = .non ∧ Q (.ref x) H2) (WX σ)
section
variable {X : Cx} {k : Nat} {f C : Addr} {fd : FuncData} {ps : List Str} {sp : Sp} {dvs : List V} {ds : List Value} {WX : WXT} {x m : Str} {p pos apos : Pos} {e o : Expr} {es : List Expr} {ta : TE} {t : TA}
theorem run_fnX {pins : List (Addr × Obj)} {σ : St} {H : Hp} {s : Shared} {Q : VK} {us : List Value} {vs : List V} (F : FnOk X.prog X.w X.K X.mg X.base (CXE X.prog X.w) k f fd ps sp) (hr : Room k X.A) (hb : Binds X.K fd ps ds) (hd : Vals dvs ds) (hx : XC X WX)
    (I : Inv X pins σ H s) (r : Vals vs us) (h : sp (vs ++ dvs) H Q (WX σ)) : wpAny (model X.prog X.w) X.A (call (.ref f) us) (EP X pins σ Q) X.xe s := by
  have r2 : Vals (vs ++ dvs) (us ++ ds) := r.append hd
  have hl : (us ++ ds).length = ps.length := by rw [← r2.length]; exact F.len _ _ _ _ h
  refine wpAny_call (codeAny_mono (F.run X.A X.stack s H ⟨us, []⟩ (us ++ ds) (vs ++ dvs) Q (WX σ) hr I.env0 (hb s us I.kIn hl) r2 h) fun r s' hq => ?_)
  cases r with
  | error e => exact hx.pass pins σ H s e s' I hq
  | ok fl => cases fl with
    | ret u => exact I.after hq
    | next => exact hq.elim
    | brk => exact hq.elim
    | cont => exact hq.elim
theorem pe_callX (F : FnOk X.prog X.w X.K X.mg X.base (CXE X.prog X.w) k f fd ps sp) (hr : Room k X.A) (hg : Gl X x) (hm : X.mg x = some (.ref f)) (hk : PySem.W.keepIn X.K (.ref f) = true) (hb : Binds X.K fd ps ds) (hd : Vals dvs ds) (hx : XC X WX)
    (ha : PA X (e :: es) t) (hdb : (x == ("__debug__" : Str)) = false := by decide) (he : starEach (e :: es) X.env = (false, eval e X.env) :: starEach es X.env := by rfl) (hpl : (backTo pos (starEach es X.env)).any (·.1) = false := by rfl) :
    PE X (.Call (.Name x p) (e :: es) [] pos) (tCallX sp dvs WX t) := by
  intro pins s σ H Q I h
  refine wpAny_Call_Name_kw (ld_glob I hg hm ?_ hdb)
  exact PySem.W.callWith_K (h₀ := X.base) I.ok.mod.kin hk (thn (ha pos pins s σ H _ I h) fun us s1 ⟨vs, H1, I1, r, q⟩ => ⟨I1.kIn, run_fnX F hr hb hd hx I1 r q⟩) he hpl
theorem run_makeX {pins : List (Addr × Obj)} {σ : St} {H : Hp} {s : Shared} {Q : VK} {us : List Value} {vs : List V} (M : Mk X.K C f) (F : FnOk X.prog X.w X.K X.mg X.base (CXE X.prog X.w) k f fd ps sp) (hr : Room (k + 1) X.A) (hb : Binds X.K fd ps ds) (hd : Vals dvs ds)
    (hx : ∀ (pins : List (Addr × Obj)) (σ : St) (H H1 : Hp) (s s1 : Shared) (e : Value) (s' : Shared), Inv X pins σ H s → Inv X pins σ H1 s1 → CXE X.prog X.w X.stack H1 s1 (WX σ) e s' → X.xe e s') (I : Inv X pins σ H s) (r : Vals vs us)
    (h : ∀ x dx, H x = none → H dx = none → dx ≠ x → sp (.ref x :: (vs ++ dvs)) (upd (upd H dx (.own x)) x (.ins C dx [])) (fun v H2 => v = .non ∧ Q (.ref x) H2) (WX σ)) :
    wpAny (model X.prog X.w) X.A (call (.ref C) us) (EP X pins σ Q) X.xe s := by
  have hq := h (s.heap.objs.size + 1) s.heap.objs.size (I.hok.fresh (Nat.le_succ _)) (I.hok.fresh (Nat.le_refl _)) (Nat.ne_of_lt (Nat.lt_succ_self _))
  have I2 := Inv.made (C := C) I
  have r2 : Vals (V.ref (s.heap.objs.size + 1) :: (vs ++ dvs)) (Value.ref (s.heap.objs.size + 1) :: (us ++ ds)) := .cons rfl (r.append hd)
  have hl : (Value.ref (s.heap.objs.size + 1) :: us ++ ds).length = ps.length := by
    have e := r2.length
    rw [F.len _ _ _ _ hq] at e
    exact e.symm
  refine wpAny_call (make_map (f := f) I.kIn M.makes M.init (beq_iff_eq.mp M.fn) (codeAny_mono (F.run _ X.stack _ _ ⟨Value.ref (s.heap.objs.size + 1) :: us, []⟩ (Value.ref (s.heap.objs.size + 1) :: (us ++ ds)) _ _ (WX σ) (hr.make C us [])
    (I2.env0.make C us []) (hb _ (Value.ref (s.heap.objs.size + 1) :: us) I2.kIn hl) r2 hq) fun r s' hq' => ?_))
  cases r with
  | error e => exact hx pins σ _ _ _ _ e s' I I2 hq'
  | ok fl => cases fl with
    | ret u =>
      obtain ⟨v, H', I3, rv, ev, q3⟩ := I2.after hq'
      subst ev
      exact ⟨rv, ⟨V.ref (s.heap.objs.size + 1), H', I3, rfl, q3⟩⟩
    | next => exact hq'.elim
    | brk => exact hq'.elim
    | cont => exact hq'.elim
theorem pe_makeX (M : Mk X.K C f) (F : FnOk X.prog X.w X.K X.mg X.base (CXE X.prog X.w) k f fd ps sp) (hr : Room (k + 1) X.A) (hg : Gl X x) (hm : X.mg x = some (.ref C)) (hb : Binds X.K fd ps ds) (hd : Vals dvs ds) (hx : XC X WX)
    (ha : PA X (e :: es) t) (hdb : (x == ("__debug__" : Str)) = false := by decide) (he : starEach (e :: es) X.env = (false, eval e X.env) :: starEach es X.env := by rfl) (hpl : (backTo pos (starEach es X.env)).any (·.1) = false := by rfl) :
    PE X (.Call (.Name x p) (e :: es) [] pos) (tMakeX C sp dvs WX t) := by
  intro pins s σ H Q I h
  refine wpAny_Call_Name_kw (ld_glob I hg hm ?_ hdb)
  exact PySem.W.callWith_K (h₀ := X.base) I.ok.mod.kin M.kp (thn (ha pos pins s σ H _ I h) fun us s1 ⟨vs, H1, I1, r, q⟩ => ⟨I1.kIn, run_makeX M F hr hb hd (fun pins σ _ _ _ _ e s' _ I1 z => hx.pass pins σ _ _ e s' I1 z) I1 r q⟩) he hpl
structure ErrC (K : PySem.W.Frag) (C : Addr) : Prop where
  ex : PySem.W.excIn K C [.type "ValueError", .type "Exception", .type "BaseException", .type "object"] "ValueError.__new__" = true
def tRaise (WX : WXT) (C : Addr) (t : TA) : TS := fun D σ H => t σ H fun vs H1 => vs.length ≤ sizeLine ∧ WX σ (.ref C) none H1
theorem ps_raise {np cpos : Pos} (hx : XW X WX) (hc : X.calm = true) (hg : Gl X x) (hm : X.mg x = some (.ref C)) (er : ErrC X.K C) (ha : PA X (e :: es) t)
    (hdb : (x == ("__debug__" : Str)) = false := by decide) (he : starEach (e :: es) X.env = (false, eval e X.env) :: starEach es X.env := by rfl) (hpl : (backTo cpos (starEach es X.env)).any (·.1) = false := by rfl) :
    PS X (.Raise (some (.Call (.Name x np) (e :: es) [] cpos)) none pos) (tRaise WX C t) := by
  intro pins s σ H D I h
  have q := er.ex
  unfold PySem.W.excIn at q
  split at q
  · rename_i dd cd sl ho
    split at q
    · rename_i C' bm k0 k1 k2 k3 n k5 hm' hs
      simp only [Bool.and_eq_true, beq_iff_eq, Bool.not_eq_true'] at q
      obtain ⟨⟨⟨⟨⟨rfl, rfl⟩, hdel⟩, ht⟩, hok⟩, hni⟩ := q
      obtain ⟨nm, bs, mro, ns, qn, hd, sn, sub, ab, col, del⟩ := cd
      dsimp only at hm' hdel hok hni
      subst hm' hdel
      obtain rfl : sl = #[k0, k1, k2, k3, some (.builtin "ValueError.__new__"), k5] := by
        obtain ⟨l⟩ := sl
        simp only at hs
        rw [hs]
      have T := PySem.W.tail_of_in I.ok.mod.kin ht
      refine wpAny_Raise_call_subT (C := C') (nm := nm) (q := qn) (N := ns) (bs := bs) (bm := bm) (hdct := hd) (sn := sn) (sub := sub) (ab := ab) (col := col) (dd := dd) (k0 := k0) (k1 := k1) (k2 := k2) (k3 := k3) (k5 := k5) PySem.F.excBase_ValueError (mN := X.base.nsMap ns)
        (T.hasType PySem.F.excBase_ValueError.hasBase) (I.ok.hd hc) (by rw [he]; show (false || (backTo cpos (starEach es X.env)).any (·.1)) = false; rw [hpl]; rfl) (PySem.W.nsMap_none_of_in I.ok.mod.kin hok hni) (ld_glob I hg hm ⟨rfl, ?_⟩ hdb)
      rw [he]
      have hp := ha cpos pins s σ H _ I h
      rw [he] at hp
      refine Calls.evalArgs_plain (wpAny_mono hp (fun us s1 z => ?_) fun _ _ z => z)
      obtain ⟨vs, H1, I1, rv, hz, hw⟩ := z
      refine ⟨rfl, by rw [← rv.length]; exact hz, I1.kIn _ _ ho, (Heap.Ns.of_isNs (PySem.W.isNs_of_in I.ok.mod.kin hok)).keeps I1.bk, T.keeps I1.bk, fun h' ea mk => hx.raise pins σ H1 s1 h' ea _ _ I1 mk hw⟩
    · cases q
  · cases q
end
end L2
set_option Elab.async false
set_option linter.all false
set_option maxRecDepth 100000
namespace L2
open PySem PySem.Spec PyProof.Rows
structure MkO (C : Addr) (dx : Option Addr) (ob : Obj) : Prop where
  ex : ∃ (vs : Array Value) (sl : Array (Option Value)), ob = ⟨.ref C, dx, .fields vs, sl⟩ ∧ vs[2]? = some Value.none
def cxTry (X : Cx) (pins : List (Addr × Obj)) (E : Value → Shared → Prop) : Cx := { X with pn := X.pn ++ pins, xe := E }
def cxSuite (X : Cx) (pins : List (Addr × Obj)) (ea : Addr) (ob : Obj) : Cx := { X with A := X.A.mark (some (.ref ea)), calm := false, pn := X.pn ++ pins ++ [(ea, ob)], xe := fun _ _ => False }
section
variable {X : Cx} {pins pins' : List (Addr × Obj)} {σ : St} {H : Hp} {s : Shared} {E : Value → Shared → Prop} {ea : Addr} {ob : Obj}
theorem ok_try (ok : X.Ok) : (cxTry X pins E).Ok := ⟨ok.mod, ok.kind, ok.glob, ok.blt, ok.above, ok.inj, ok.has, ok.cab, ok.hd, ok.frames, ok.stk, ok.exf, ok.bs, ok.bsz, ok.noex, ok.exfs, ok.funs, ok.frf⟩
theorem ok_suite (ok : X.Ok) : (cxSuite X pins ea ob).Ok := ⟨ok.mod, ok.kind, ok.glob, ok.blt, ok.above, ok.inj, ok.has, ok.cab, (fun z => nomatch z), ok.frames, ok.stk, ok.exf, ok.bs, ok.bsz, ok.noex, ok.exfs, ok.funs, ok.frf⟩
theorem inv_try (I : Inv X pins σ H s) : Inv (cxTry X pins E) [] σ H s := ⟨ok_try I.ok, I.os, I.bare, I.base, I.loc, I.cell, I.free, I.freeC, fun p hp => I.pin p (by simpa [cxTry] using hp), I.hok, I.len⟩
theorem inv_untry (ok : X.Ok) (I : Inv (cxTry X pins E) pins' σ H s) : Inv X pins σ H s := ⟨ok, I.os, I.bare, I.base, I.loc, I.cell, I.free, I.freeC, fun p hp => I.pin p (List.mem_append_left _ hp), I.hok, I.len⟩
theorem inv_suite (I : Inv X pins σ H s) (he : s.heap.get? ea = some ob) (hn : H ea = none) (hl : ea ≠ X.env.locals) (hf : ea ∉ X.fs) (hc : ∀ v, ob.data ≠ .cell v) : Inv (cxSuite X pins ea ob) [] σ H s :=
  ⟨ok_suite I.ok, I.os, I.bare, I.base, I.loc, I.cell, I.free, I.freeC, fun p hp => by
    have hp : p ∈ X.pn ++ pins ++ [(ea, ob)] := by simpa [cxSuite] using hp
    rcases List.mem_append.mp hp with z | z
    · exact I.pin p z
    · cases List.mem_singleton.mp z
      exact ⟨he, hn, hl, hf, hc⟩, I.hok, I.len⟩
theorem inv_unsuite (ok : X.Ok) (I : Inv (cxSuite X pins ea ob) pins' σ H s) : Inv X pins σ H s := ⟨ok, I.os, I.bare, I.base, I.loc, I.cell, I.free, I.freeC, fun p hp => I.pin p (List.mem_append_left _ (List.mem_append_left _ hp)), I.hok, I.len⟩
theorem SP.untry {D : Ends} {f : Flow} (ok : X.Ok) (h : SP (cxTry X pins E) [] D f s) : SP X pins D f s := by
  cases f with
  | next => obtain ⟨σ', H', I, q⟩ := h; exact ⟨σ', H', inv_untry ok I, q⟩
  | brk => obtain ⟨σ', H', I, q⟩ := h; exact ⟨σ', H', inv_untry ok I, q⟩
  | cont => obtain ⟨σ', H', I, q⟩ := h; exact ⟨σ', H', inv_untry ok I, q⟩
  | ret u => obtain ⟨v, σ', H', I, r, q⟩ := h; exact ⟨v, σ', H', inv_untry ok I, r, q⟩
theorem Inv.forget {h' : Heap} {m' : Str → Option Value} {t' : Nat} (I : Inv X pins σ H s) (hn : h'.Ns X.env.locals m') (sb : Heap.SameBut X.env.locals s.heap h') : Inv X pins (List.replicate X.N.length none) H { s with heap := h', toks := t' } := by
  have nl : ∀ b o, X.s₀.heap.get? b = some o → b ≠ X.env.locals := fun b o e => Nat.ne_of_lt (Nat.lt_of_lt_of_le (Heap.lt_size e) I.ok.above)
  have up : ∀ b o, b ≠ X.env.locals → s.heap.get? b = some o → h'.get? b = some o := fun b o hb e => (sb.2 b hb).trans e
  refine ⟨I.ok, I.os, I.bare, ⟨fun b o e n hb hx => up b o (nl b o e) (I.base.keep b o e n hb hx), fun b o e n hb hx => ?_, I.base.free, fun b o e hx => ?_, I.base.tups, I.base.frzs, I.base.tbls⟩, ⟨m', hn, fun i x v _ h2 _ => ?_⟩, fun x c e => ?_, I.free, I.freeC, fun p hp => ?_, fun a o e => ?_, by simp⟩
  · obtain ⟨sl, z⟩ := I.base.slot b o e n hb hx
    exact ⟨sl, up b _ (nl b o e) z⟩
  · obtain ⟨o', z⟩ := I.base.there b o e hx
    exact ⟨o', up b _ (nl b o e) z⟩
  · rw [List.getElem?_replicate] at h2
    split at h2 <;> cases h2
  · obtain ⟨v, o, z, d⟩ := I.cell x c e
    exact ⟨v, o, up c o (I.cne x c e) z, d⟩
  · obtain ⟨z1, z2, z3, z4⟩ := I.pin p hp
    exact ⟨up _ _ z3 z1, z2, z3, z4⟩
  · have ne : ∀ b u, H b = some u → b ≠ X.env.locals := fun b u q z => by rw [z, I.free] at q; cases q
    exact (I.hok a o e).stay (fun b u hb q => up b u (by
      rcases hb with rfl | hb
      · exact ne _ _ e
      · exact ne _ _ hb) q) (fun _ q => q) fun _ _ q => q
def onlyRet (D : Ends) : Ends := { nx := fun _ _ => False, rt := D.rt }
end
def tTryAs (K : PySem.W.Frag) (C : Addr) (i : Nat) (tb : WXT → TS) (th : Addr → Addr → Option Addr → TS) : TS := fun D σ H =>
  ∃ WE : WXT, tb WE D σ H ∧ ∀ σ' cls dx H', WE σ' cls dx H' → ∃ C', cls = .ref C' ∧ PySem.W.exmOne K (.ref C') (.ref C) = some true ∧ ∀ ea, H' ea = none → th ea C' dx (onlyRet D) (σ'.set i (some (.ref ea))) H'
section
variable {X : Cx} {x n : Str} {C : Addr} {body : List Stmt} {b₀ : Stmt} {suite : List Stmt} {np pos hpos : Pos} {tb : WXT → TS} {th : Addr → Addr → Option Addr → TS}
theorem looks_type {M : Model} {h : Heap} {a : Addr} {o : Obj} (e : h.get? a = some o) : PySem.W.Looks M h (typeOf (.ref a)) o.cls := (PySem.W.Looks.ld e).andThen .now
def Behind (X : Cx) (nm : Option Str) (hpos : Pos) (Q : Flow → Shared → Prop) (r : Result) (s : Shared) : Prop := match r with
  | .ok f => (match nm with
    | none => Q f s
    | some n => wpAny (model X.prog X.w) X.A (do bindName X.env n .none; unbindBehindTheSuite X.env n hpos) (fun _ s₃ => Q f s₃) X.xe s)
  | .error x => cameBackBy (model X.prog X.w) X.A X.env X.xe x s
theorem try_seen {pins pins' : List (Addr × Obj)} {σ : St} {H : Hp} {s s' : Shared} {e : Value} {WE : XK} {nm : Option Str} {Q : Flow → Shared → Prop} {EE : Value → Shared → Prop} {L : Addr} {outer : List Env} (hst : X.stack = X.env :: outer) (hf : X.env.frame = some L) (hg : Gl X x) (hm : X.mg x = some (.ref C)) (hdb : (x == ("__debug__" : Str)) = false) (ok : X.Ok)
    (I : Inv (cxTry X pins EE) pins' σ H s) (z : CXE X.prog X.w X.stack H s WE e s') (hW : ∀ cls dx H', WE cls dx H' → ∃ C', cls = .ref C' ∧ PySem.W.exmOne X.K (.ref C') (.ref C) = some true)
    (k : ∀ (ea C' : Addr) (dx : Option Addr) (H' : Hp) (s5 : Shared), e = .ref ea → WE (.ref C') dx H' → H' ea = none → (∀ (M : Model) (A : Around) (E : Value → Shared → Prop) (Q : Unit → Shared → Prop), (∀ ob s6, MkO C' dx ob → Inv (cxSuite X pins ea ob) [] σ H' s6 → Q () s6) → wpAny M A (setFlight (.ref ea) none) Q E s5) →
      codeAny (model X.prog X.w) (X.A.mark (some (.ref ea))) (.handlers (.ref ea) [.ExceptHandler none nm (b₀ :: suite) hpos] X.env) (Behind X nm hpos Q) s5) :
    wpAny (model X.prog X.w) X.A (noteFrame e X.env) (fun _ s₂ => wpAny (model X.prog X.w) X.A (setFlight e none) (fun _ s₃ => wpAny (model X.prog X.w) X.A (handleBy e X.env [.ExceptHandler (some (.Name x np)) nm (b₀ :: suite) hpos]) Q X.xe s₃) X.xe s₂) X.xe s' := by
  obtain ⟨ea, cls, dx, H', B, rfl, os, bare, fl, hok, u, slo, hE⟩ := z
  obtain ⟨C', rfl, hmt⟩ := hW cls dx H' hE
  have fl : Fly B (X.env :: outer) ea (.ref C') dx .none s'.heap := by rw [← hst]; exact fl
  have J : ∀ {h3 : Heap} {t3 : Nat}, B.StaysIn h3 → s'.heap.UpToSlots h3 → Inv X pins σ H' { s' with heap := h3, toks := t3 } := fun {h3 t3} st up => by
    refine inv_untry ok (Inv.call' I (s' := { s' with heap := h3, toks := t3 }) os (u.un st fun b o hb q => ?_) (hok.kept st) bare (fun b z => nomatch z))
    obtain ⟨_, o', q', nf⟩ := I.stack.mem hb
    rw [q] at q'
    cases q'
    obtain ⟨sl, q2⟩ := slo b o hb q
    exact up b { o with slots := sl } q2 nf
  have hn : H' ea = none := by
    cases q : H' ea with
    | none => rfl
    | some o => obtain ⟨_, z⟩ := (hok ea o q).some; rw [fl.new] at z; cases z
  refine note_more (by rw [ok.frames, hst]) hf fl fun h4 fl4 up4 => ?_
  refine land (s := { s' with heap := h4 }) fl4 fun h5 fl5 up5 => ?_
  have fin : ∀ {h6 : Heap} {t6 : Nat}, Fly B (X.env :: outer) ea (.ref C') dx .none h6 → h5.UpToSlots h6 → ∃ ob, MkO C' dx ob ∧ Inv (cxSuite X pins ea ob) [] σ H' { s' with heap := h6, toks := t6 } := fun {h6 t6} fl6 up6 => by
    have I6 := J (t3 := t6) fl6.st ((up4.trans up5).trans up6)
    obtain ⟨vs, sl, T, oT, ts, he, h2, h1, _⟩ := fl6.at_
    refine ⟨_, ⟨vs, sl, rfl, h2⟩, inv_suite I6 he hn (fun z => ?_) (fun z => ?_) (fun v z => by cases z)⟩
    · obtain ⟨m, ⟨o, es, ep, ho, hd, _⟩, _⟩ := I6.loc
      rw [← z] at ho
      have ho := (show h6.get? ea = some o from ho)
      rw [he] at ho
      cases ho
      cases hd
    · obtain ⟨_, o, ho, nf⟩ := I6.funs.mem z
      have ho := (show h6.get? ea = some o from ho)
      rw [he] at ho
      cases ho
      exact nf _ rfl
  refine wpAny_handleBy_cons (codeAny_handlers_test ?_) (by intro q; cases q)
  obtain ⟨ob5, _, I5⟩ := fin (t6 := s'.toks) fl5 (Heap.UpToSlots.refl _)
  refine ld_glob (X := cxSuite X pins ea ob5) I5 hg hm ?_ hdb
  obtain ⟨vs, sl, T, oT, ts, he, _⟩ := id fl5.at_
  refine (PySem.W.exm_one I5.kIn (looks_type he) hmt).here ?_
  refine k ea C' dx H' _ rfl hE hn fun M A E Q q => land (s := { s' with heap := h5 }) fl5 fun h6 fl6 up6 => ?_
  obtain ⟨ob6, m6, I6⟩ := fin (t6 := s'.toks) fl6 up6
  exact q ob6 _ m6 I6
theorem ps_tryAs {L : Addr} {outer : List Env} {i : Nat} (hN : X.N.Nodup) (hi : X.N[i]? = some n) (hl : X.env.scope.names.lookup n = some .local) (hst : X.stack = X.env :: outer) (hf : X.env.frame = some L) (hg : Gl X x) (hm : X.mg x = some (.ref C)) (hdb : (x == ("__debug__" : Str)) = false)
    (hb : ∀ pins EE WE, XC (cxTry X pins EE) WE → PSs (cxTry X pins EE) body (tb WE)) (hh : ∀ pins ea C' dx ob, MkO C' dx ob → PSs (cxSuite X pins ea ob) (b₀ :: suite) (th ea C' dx)) :
    PS X (.Try body [.ExceptHandler (some (.Name x np)) (some n) (b₀ :: suite) hpos] [] [] pos) (tTryAs X.K C i tb th) := by
  intro pins s σ H D I h
  obtain ⟨WE, h1, h2⟩ := h
  refine wpAny_Try_except (thn (hb pins _ WE ⟨fun pins' σ' H' s1 e s2 I' z => ?_⟩ [] s σ H D (inv_try I) h1) fun f s1 q => ?_)
  · refine try_seen hst hf hg hm hdb I.ok I' z (fun cls dx H' w => let ⟨C', e1, e2, _⟩ := h2 σ' cls dx H' w; ⟨C', e1, e2⟩) fun ea C' dx H2 s5 e5 w hn land => ?_
    obtain ⟨C2, e1, e2, h3⟩ := h2 σ' _ dx H2 w
    cases e1
    refine codeAny_handlers_suite_as (wpAny_noRaise (land _ _ _ _ fun ob s6 mk I6 => wpAny_noRaise (store_ok (X := cxSuite X pins ea ob) (v := .ref ea) I6 hN hi (.inl hl) rfl (fun s7 I7 => ?_) (.inr hl))))
    refine wpAny_mono (hh pins ea C' dx ob mk [] s7 _ H2 (onlyRet D) I7 (h3 ea hn)) (fun f s8 q8 => ?_) fun _ _ z => z.elim
    cases f with
    | next => obtain ⟨_, _, _, z⟩ := q8; exact z.elim
    | brk => obtain ⟨_, _, _, z⟩ := q8; exact z.elim
    | cont => obtain ⟨_, _, _, z⟩ := q8; exact z.elim
    | ret v =>
      obtain ⟨y, σ9, H9, I9, r9, q9⟩ := q8
      have I9 := inv_unsuite I.ok I9
      obtain ⟨m, hn9, _⟩ := id I9.loc
      refine wpAny_nameGoes (m := m) hl hn9 (by rw [I9.ok.kind]; rfl) fun h' m' hn' sb => ?_
      refine ⟨y, List.replicate X.N.length none, H9, ?_, r9, q9⟩
      exact I9.forget hn' sb
  · have q := SP.untry I.ok q
    cases f with
    | next => exact wpAny_execs_nil q
    | brk => exact q
    | cont => exact q
    | ret u => exact q
end
end L2
set_option Elab.async false
set_option linter.all false
set_option maxRecDepth 100000
namespace L2
open PySem PySem.Spec PyProof.Rows
structure RoomM (k : Nat) (A : Around) : Prop where
  dp : A.depth + 3 * k + 5 < recursionLimit
  un : A.units + 16 * k + 200 < cLine
theorem Room.m {k : Nat} {A : Around} {e : Option Value} (r : Room k A) : RoomM k (A.mark e) := ⟨r.dp, r.un⟩
theorem RoomM.mono {j k : Nat} {A : Around} (r : RoomM k A) (h : j ≤ k) : RoomM j A := ⟨by have := r.dp; omega, by have := r.un; omega⟩
theorem RoomM.deeper {k : Nat} {A : Around} (r : RoomM (k + 1) A) (env : Env) : RoomM k (A.deeper env) :=
  ⟨by have := r.dp; show A.depth + 1 + 3 * k + 5 < _; omega, by have := r.un; show A.units + 3 + 16 * k + 200 < _; omega⟩
theorem RoomM.depth {k : Nat} {A : Around} (r : RoomM k A) : A.depth < recursionLimit := by have := r.dp; omega
theorem RoomM.units {k : Nat} {A : Around} (r : RoomM k A) : A.units + 64 < cLine := by have := r.un; omega
theorem RoomM.units0 {k : Nat} {A : Around} (r : RoomM k A) : A.units < cLine := by have := r.un; omega
structure FnOkM (P : Program) (w : World) (K : PySem.W.Frag) (mg : Str → Option Value) (base : Heap) (ea : Addr) (ob : Obj) (k : Nat) (f : Addr) (fd : FuncData) (ps : List Str) (sp : Sp) : Prop where
  len : ∀ vs H Q E, sp vs H Q E → vs.length = ps.length
  run : ∀ (A : Around) (outer : List Env) (s : Shared) (H : Hp) (args : Args) (us : List Value) (vs : List V) (Q : VK), RoomM k A → A.handled = some (.ref ea) → s.heap.get? ea = some ob → H ea = none → ea ∉ frs outer → Env0 P w K mg base A outer s H → BindsTo s fd args (ps.zip us) → Vals vs us → sp vs H Q E0 →
    codeAny (model P w) A (.call (.ref f) args) (CR CX0 outer P w H s Q E0) s
def cxM (P : Program) (w : World) (K : PySem.W.Frag) (mg : Str → Option Value) (base : Heap) (N : List Str) (qual : Str) (scope : Scope) (f : Addr) (cd : Value) (A : Around) (outer : List Env) (s : Shared) (H : Hp) (ea : Addr) (ob : Obj) : Cx :=
  { cxOf CX0 P w K mg base N qual scope f cd A outer s H E0 with calm := false, pn := [(ea, ob)], xe := fun _ _ => False }
theorem calm_m {P : Program} {w : World} {K : PySem.W.Frag} {mg : Str → Option Value} {base : Heap} {N : List Str} {qual : Str} {scope : Scope} {f : Addr} {cd : Value} {A : Around} {outer : List Env} {s : Shared} {H : Hp} {ea C : Addr} {dx : Option Addr} {ob : Obj} (mk : MkO C dx ob) (hh : A.handled = some (.ref ea)) :
    Calm (cxM P w K mg base N qual scope f cd A outer s H ea ob) := by
  obtain ⟨vs, sl, rfl, h2⟩ := mk.ex
  exact .inr ⟨ea, C, dx, vs, sl, hh, h2, List.mem_singleton.mpr rfl⟩
theorem fn_ofM {P : Program} {w : World} {K : PySem.W.Frag} {mg : Str → Option Value} {base : Heap} {k : Nat} {f : Addr} {name qual : Str} {params : Arguments} {body : List Stmt} {scope : Scope} {dV kV doc pm cdv ct oc : Value} {an od : Option Addr} {ea C : Addr} {dx : Option Addr} {ob : Obj}
    {osl : Array (Option Value)} {N ps : List Str} {sp : Sp} (mk : MkO C dx ob) (lk : K.lookup f = some ⟨oc, od, .func (PySem.W.fnOf name qual params body scope dV kV doc pm an cdv ct), osl⟩) (hcd : PySem.W.codeIn K cdv qual = true) (S : FnScope N ps scope)
    (len : ∀ vs H Q E, sp vs H Q E → vs.length = ps.length)
    (hbody : ∀ (A : Around) (outer : List Env) (s : Shared) (H : Hp) (vs : List V) (Q : VK), RoomM k (A.deeper (envOfC qual scope s.heap.objs.size f cdv)) → Calm (cxM P w K mg base N qual scope f cdv A outer s H ea ob) → A.handled = some (.ref ea) → sp vs H Q E0 →
      ∃ t, PSs (cxM P w K mg base N qual scope f cdv A outer s H ea ob) body t ∧ t { nx := fun _ H' => Q .non H', rt := Q } (start N vs) H) :
    FnOkM P w K mg base ea ob (k + 1) f (PySem.W.fnOf name qual params body scope dV kV doc pm an cdv ct) ps sp := by
  refine ⟨len, fun A outer s H args us vs Q hr hh hea hne hnf e0 hb r hsp => ?_⟩
  have hl := len _ _ _ _ hsp
  have KX : K.In s.heap := e0.mod.kin.keeps fun b o e => (e0.bs b o e).1
  have lim : s.heap.NoLimit := e0.mod.nolimit.keeps fun b o e => (e0.bs b o e).1
  refine codeAny_call_function hr.depth (KX _ _ lk) rfl S.co S.gen rfl (PySem.W.codeRec_of KX hcd) (hb _ _ _ _ ?_)
  refine wpAny_newFunctionEnv_cells S.kind (fun ⟨n, v⟩ hy => ?_) fun env he s1 x => ?_
  · rcases S.par n (List.of_mem_zip hy).1 with q | q
    · exact .inl q
    · exact .inr ⟨q, PySem.W.cellsFrom_some _ _ _ (.inl q)⟩
  subst he
  refine ⟨lim.keeps x.toInCall.keep, codeAny_func ?_⟩
  obtain ⟨t, ht, hq⟩ := hbody A outer s H vs Q (hr.deeper _) (calm_m mk hh) hh hsp
  have e1 : Env0 P w K mg base { A with handled := none } outer s H := ⟨e0.frames, e0.mod, e0.bs, e0.bsz, e0.funs, e0.frf, e0.hok, e0.bare⟩
  have I0 : Inv (cxOf CX0 P w K mg base N qual scope f cdv { A with handled := none } outer s H E0) [] (start N vs) H s1 := inv_start S rfl e1 hl r x
  have I : Inv (cxM P w K mg base N qual scope f cdv A outer s H ea ob) [] (start N vs) H s1 := by
    refine ⟨⟨I0.ok.mod, I0.ok.kind, I0.ok.glob, I0.ok.blt, I0.ok.above, I0.ok.inj, I0.ok.has, I0.ok.cab, (fun z => nomatch z), Around.frames_deeper e0.frames, I0.ok.stk, I0.ok.exf, I0.ok.bs, I0.ok.bsz, I0.ok.noex, I0.ok.exfs, I0.ok.funs, I0.ok.frf⟩, I0.os, I0.bare, I0.base, I0.loc, I0.cell, I0.free, I0.freeC, fun p hp => ?_, I0.hok, I0.len⟩
    obtain rfl : p = (ea, ob) := by simpa [cxM] using hp
    obtain ⟨vs', sl, rfl, _⟩ := mk.ex
    exact ⟨x.toInCall.keep _ _ hea, hne, Nat.ne_of_lt (Heap.lt_size hea), hnf, fun v z => by cases z⟩
  refine wpAny_mono (ht [] s1 (start N vs) H _ I hq) (fun fl s' hs => ?_) fun e s' hs => hs.elim
  cases fl with
  | ret u =>
    obtain ⟨v, σ', H', J, rv, q⟩ := hs
    exact ⟨v, H', J.os, J.bare, J.base, J.hok, rv, q⟩
  | next =>
    obtain ⟨σ', H', J, q⟩ := hs
    exact ⟨.non, H', J.os, J.bare, J.base, J.hok, rfl, q⟩
  | brk =>
    obtain ⟨_, _, _, q⟩ := hs
    exact q.elim
  | cont =>
    obtain ⟨_, _, _, q⟩ := hs
    exact q.elim
section
variable {P : Program} {w : World} {K : PySem.W.Frag} {mg : Str → Option Value} {base : Heap} {x qual : Str} {st : Stmt} {f : Addr} {fd : FuncData} {N ps : List Str} {k : Nat} {sp : Sp}
theorem Fun.okR (F : Fun K x qual st f fd) (S : FnScope N ps (defScope st)) (len : ∀ vs H Q E, sp vs H Q E → vs.length = ps.length)
    (hbody : ∀ (cdv : Value) (A : Around) (outer : List Env) (s : Shared) (H : Hp) (vs : List V) (Q : VK) (E : XK), Room k (A.deeper (envOfC qual (defScope st) s.heap.objs.size f cdv)) → sp vs H Q E →
      ∃ t, PSs (cxOf (CXE P w) P w K mg base N qual (defScope st) f cdv A outer s H E) (defBody st) t ∧ t { nx := fun _ H' => Q .non H', rt := Q } (start N vs) H) : FnOk P w K mg base (CXE P w) (k + 1) f fd ps sp := by
  obtain ⟨oc, od, kV, doc, pm, an, cdv, ct, osl, rfl, lk, hcd⟩ := F.ex
  exact fn_of lk hcd S len fun A outer s H vs Q E hr hsp => hbody cdv A outer s H vs Q E hr hsp
theorem Fun.okM {ea C : Addr} {dx : Option Addr} {ob : Obj} (F : Fun K x qual st f fd) (mk : MkO C dx ob) (S : FnScope N ps (defScope st)) (len : ∀ vs H Q E, sp vs H Q E → vs.length = ps.length)
    (hbody : ∀ (cdv : Value) (A : Around) (outer : List Env) (s : Shared) (H : Hp) (vs : List V) (Q : VK), RoomM k (A.deeper (envOfC qual (defScope st) s.heap.objs.size f cdv)) → Calm (cxM P w K mg base N qual (defScope st) f cdv A outer s H ea ob) → A.handled = some (.ref ea) → sp vs H Q E0 →
      ∃ t, PSs (cxM P w K mg base N qual (defScope st) f cdv A outer s H ea ob) (defBody st) t ∧ t { nx := fun _ H' => Q .non H', rt := Q } (start N vs) H) : FnOkM P w K mg base ea ob (k + 1) f fd ps sp := by
  obtain ⟨oc, od, kV, doc, pm, an, cdv, ct, osl, rfl, lk, hcd⟩ := F.ex
  exact fn_ofM mk lk hcd S len fun A outer s H vs Q hr hc hh hsp => hbody cdv A outer s H vs Q hr hc hh hsp
end
theorem cxKm {P : Program} {w : World} {K : PySem.W.Frag} {mg : Str → Option Value} {base : Heap} {N : List Str} {qual : Str} {scope : Scope} {f : Addr} {cd : Value} {A : Around} {outer : List Env} {s : Shared} {H : Hp} {ea : Addr} {ob : Obj} : (cxM P w K mg base N qual scope f cd A outer s H ea ob).K = K := rfl
theorem cxKs {X : Cx} {pins : List (Addr × Obj)} {ea : Addr} {ob : Obj} : (cxSuite X pins ea ob).K = X.K := rfl
theorem cxKt {X : Cx} {pins : List (Addr × Obj)} {E : Value → Shared → Prop} : (cxTry X pins E).K = X.K := rfl
structure Mkd (X : Cx) (ea : Addr) (ob : Obj) : Prop where
  hd : X.A.handled = some (.ref ea)
  pin : (ea, ob) ∈ X.pn
theorem mkd_suite {X : Cx} {pins : List (Addr × Obj)} {ea : Addr} {ob : Obj} : Mkd (cxSuite X pins ea ob) ea ob := ⟨rfl, List.mem_append_right _ (List.mem_singleton.mpr rfl)⟩
theorem mkd_m {P : Program} {w : World} {K : PySem.W.Frag} {mg : Str → Option Value} {base : Heap} {N : List Str} {qual : Str} {scope : Scope} {f : Addr} {cd : Value} {A : Around} {outer : List Env} {s : Shared} {H : Hp} {ea : Addr} {ob : Obj} (hh : A.handled = some (.ref ea)) : Mkd (cxM P w K mg base N qual scope f cd A outer s H ea ob) ea ob := ⟨hh, List.mem_singleton.mpr rfl⟩
section
variable {X : Cx} {k : Nat} {f C : Addr} {fd : FuncData} {ps : List Str} {sp : Sp} {ea : Addr} {ob : Obj} {x m : Str} {p pos apos : Pos} {e o : Expr} {es : List Expr} {ta : TE} {t : TA}
theorem run_fnM {pins : List (Addr × Obj)} {σ : St} {H : Hp} {s : Shared} {Q : VK} {us : List Value} {vs : List V} (F : FnOkM X.prog X.w X.K X.mg X.base ea ob k f fd ps sp) (mk : Mkd X ea ob) (hr : RoomM k X.A) (hb : Binds X.K fd ps [])
    (I : Inv X pins σ H s) (r : Vals vs us) (h : sp vs H Q E0) : wpAny (model X.prog X.w) X.A (call (.ref f) us) (EP X pins σ Q) X.xe s := by
  have hl : (us ++ []).length = ps.length := by rw [List.append_nil, ← r.length]; exact F.len _ _ _ _ h
  obtain ⟨p1, p2, p3, p4, _⟩ := I.pin _ (List.mem_append_left _ mk.pin)
  have hb' := hb s us I.kIn hl
  rw [List.append_nil] at hb'
  refine wpAny_call (codeAny_mono (F.run X.A X.stack s H ⟨us, []⟩ us vs Q hr mk.hd p1 p2 (fun z => (List.mem_cons.mp (I.stkSub _ z)).elim p3 p4) I.env0 hb' r h) fun r s' hq => ?_)
  cases r with
  | error e => exact hq.elim
  | ok fl => cases fl with
    | ret u => exact I.after hq
    | next => exact hq.elim
    | brk => exact hq.elim
    | cont => exact hq.elim
theorem pe_callM (F : FnOkM X.prog X.w X.K X.mg X.base ea ob k f fd ps sp) (mk : Mkd X ea ob) (hr : RoomM k X.A) (hg : Gl X x) (hm : X.mg x = some (.ref f)) (hk : PySem.W.keepIn X.K (.ref f) = true) (hb : Binds X.K fd ps [])
    (ha : PA X (e :: es) t) (hdb : (x == ("__debug__" : Str)) = false := by decide) (he : starEach (e :: es) X.env = (false, eval e X.env) :: starEach es X.env := by rfl) (hpl : (backTo pos (starEach es X.env)).any (·.1) = false := by rfl) :
    PE X (.Call (.Name x p) (e :: es) [] pos) (tCall sp [] E0 t) := by
  intro pins s σ H Q I h
  refine wpAny_Call_Name_kw (ld_glob I hg hm ?_ hdb)
  exact PySem.W.callWith_K (h₀ := X.base) I.ok.mod.kin hk (thn (ha pos pins s σ H _ I h) fun us s1 ⟨vs, H1, I1, r, q⟩ => ⟨I1.kIn, run_fnM F mk hr hb I1 r (by simpa only [List.append_nil] using q)⟩) he hpl
end
end L2
set_option Elab.async false
set_option linter.all false
set_option maxRecDepth 100000
namespace L2
open PySem PySem.Spec PyProof.Rows PySem.W
section
variable {prog : Program} {w : World} {A : Around} {E : Value → Shared → Prop} {s : Shared} {K : Frag} {x D : Addr} {ox : Obj} {od : Option Obj} {name : Str}
structure ErrA (K : Frag) (D : Addr) : Prop where
  ga : findIn K (.ref D) "__getattribute__" = some (some (.builtin "BaseException.__getattribute__"))
  gn : findIn K (.ref D) "__getattr__" = some none
  bx : mroIn K D (.type "BaseException") = some true
theorem check_ga {M : Model} {nameV : Value} {Q : Unit → Shared → Prop} (X : K.In s.heap) (I : InstAt s.heap x ox D od) (er : ErrA K D) (q : Q () s) : wpAny M A (checkBuiltinCall "BaseException.__getattribute__" ⟨[.ref x, nameV], []⟩) Q E s := by
  obtain ⟨h, g, d, t, os⟩ := s
  have hk : builtinKind "BaseException.__getattribute__" = some .slot := by decide +kernel
  have hsplit : splitId "BaseException.__getattribute__" = some ("BaseException", "__getattribute__") := by decide +kernel
  have ha := F.args_bexc_ga (.ref x) nameV
  have L0 := I.type (M := M)
  have L1 := looks_mroIn (M := M) X er.bx
  have LI : Looks M h (isInstance (.ref x) (.type "BaseException")) true := L0.andThen L1
  simp only [checkBuiltinCall, hk, hsplit]
  refine wpAny_bind (LI.at ?_)
  repeat (any_goals (first | assumption | wp_step))
theorem exc_called {tk : Tok} {Q : Value → Shared → Prop} (X : K.In s.heap) (I : InstAt s.heap x ox D od) (er : ErrA K D)
    (h : wpAny (model prog w) A.in1 (Builtin.«object.__getattribute__» ⟨[.ref x, .str name tk], []⟩) (fun fin s' => match fin with | .done (.ret v) => Q v s' | _ => False) (fun _ _ => False) s) :
    wpAny (model prog w) A (boundAndCalled (.builtin "BaseException.__getattribute__") (.ref x) (.str name tk)) Q E s := by
  have f3 := F.excAttr_ValueError.ga.bind (.ref x)
  unfold boundAndCalled
  rw [f3]
  refine wpAny_bind (wpAny_pure ?_)
  refine wpAny_call (codeAny_call_builtin F.excAttr_ValueError.ga.plain F.entry_bexc_ga (check_ga X I er (wpAny_mono h (fun fin s' z => ?_) fun _ _ z => z.elim)))
  rcases fin with (_ | _ | _ | _) | _ <;> first | exact z | exact z.elim
theorem exc_attr {tk : Tok} {fill expr : Bool} {Q : Value → Shared → Prop} (X : K.In s.heap) (I : InstAt s.heap x ox D od) (er : ErrA K D)
    (h : wpAny (model prog w) A.in1 (Builtin.«object.__getattribute__» ⟨[.ref x, .str name tk], []⟩) (fun fin s' => match fin with | .done (.ret v) => wpAny (model prog w) A (handedOut v) Q E s' | _ => False) (fun _ _ => False) s) :
    wpAny (model prog w) A (getAttrBy (.ref x) (.str name tk) fill expr) Q E s := by
  have L0 := I.type (M := model prog w)
  have L1 := looks_findIn (M := model prog w) X er.ga
  have L2 := looks_findIn (M := model prog w) X er.gn
  unfold getAttrBy
  refine wpAny_holding (wpAny_bind (L0.here (wpAny_bind (L1.here ?_))))
  have hx2 : (Value.builtin "BaseException.__getattribute__" == Value.builtin "object.__getattribute__") = false := by decide +kernel
  dsimp only
  rw [if_neg (by rw [hx2, Bool.and_false]; exact Bool.false_ne_true)]
  unfold getAttrByItsOwn hookBefore
  rw [if_pos (show onTheHeap (.ref D) = true from rfl)]
  refine wpAny_bind (L2.here ?_)
  refine wpAny_bind (wpAny_attempt (wpAny_holding ?_))
  unfold callGetattribute
  rw [if_neg (by cases expr <;> exact Bool.false_ne_true)]
  exact exc_called X I er h
theorem exc_class (hc : (clsIn K D).isSome = true) (ha : findIn K (.ref D) "__class__" = some (some (.builtin "object.__class__")))
    (hn : specialIn K (.builtin "object.__class__") "__get__" = some (some (.builtin "getset_descriptor.__get__"))) (htk : takesIn K (.builtin "object.__class__") = some true) (hm : mroIn K D (.type "object") = some true)
    {Q : Option Value → Shared → Prop} (X : K.In s.heap) (I : InstAt s.heap x ox D od) (er : ErrA K D) (h : Q (some (.ref D)) { s with toks := s.toks + 1 }) : wpAny (model prog w) A (getAttr? (.ref x) "__class__") Q E s := by
  have hf : findObj K D od "__class__" = some (.bind (.builtin "getset_descriptor.__get__") (.builtin "object.__class__")) := by
    obtain ⟨cd, hc⟩ := Option.isSome_iff_exists.mp hc
    unfold findObj
    rw [hc, Option.bind_some, ha, Option.bind_some]
    simp [hn, htk]
  have L0 := I.type (M := model prog w)
  have L1 := looks_find (M := model prog w) X I hf
  unfold getAttr? getAttrBy?
  refine wpAny_bind (wpAny_mkText (wpAny_bind (wpAny_attempt (exc_attr (s := { s with toks := s.toks + 1 }) X I er ?_))))
  refine wpAny_bind (wpAny_pure (wpAny_bind (wpAny_pure (wpAny_bind (L0.here (s := { s with toks := s.toks + 1 }) (wpAny_bind (L1.here (s := { s with toks := s.toks + 1 }) ?_)))))))
  show wpAny _ _ (holding [Value.builtin "object.__class__"] (call (.builtin "getset_descriptor.__get__") [.builtin "object.__class__", .ref x, .ref D]) >>= ret) _ _ _
  refine wpAny_bind (wpAny_holding (wpAny_call (class_get (s := { s with toks := s.toks + 1 }) (ox := ox) (od := od) X I hm ?_)))
  exact wpAny_pure (handed_on rfl (wpAny_pure h))
theorem kitx_exc (hc : (clsIn K D).isSome = true) (ha : findIn K (.ref D) "__class__" = some (some (.builtin "object.__class__")))
    (hn : specialIn K (.builtin "object.__class__") "__get__" = some (some (.builtin "getset_descriptor.__get__"))) (htk : takesIn K (.builtin "object.__class__") = some true) (hm : mroIn K D (.type "object") = some true) (er : ErrA K D) :
    KitX K (.ref x) (.ref D) (fun h => ∃ ox od, InstAt h x ox D od) where
  ty := fun _ _ _ ⟨_, _, I⟩ => I.type
  it := fun _ _ X _ => by
    obtain ⟨cd, hcD⟩ := Option.isSome_iff_exists.mp hc
    unfold clsIn at hcD
    split at hcD
    · rename_i ho
      intro A' Q' E' s' k q
      unfold isType loadHead
      exact wpAny_bind (wpAny_loadPart (k _ _ (X _ _ ho)) (wpAny_pure q))
    · cases hcD
  ne := fun h tp dd its n sl X htp => by
    obtain ⟨cd, hcD⟩ := Option.isSome_iff_exists.mp hc
    refine Bool.eq_false_iff.mpr fun q => ?_
    have e : D = tp := Value.ref.inj (beq_iff_eq.mp q)
    subst e
    unfold clsIn at hcD
    split at hcD
    · rename_i ho
      have z := (X _ _ ho).symm.trans htp
      cases z
    · cases hcD
  ca := fun X ⟨_, _, I⟩ k => exc_class hc ha hn htk hm X I er k
end
structure ErrK (K : Frag) (D : Addr) : Prop extends ErrA K D where
  cl : (clsIn K D).isSome = true
  ca : findIn K (.ref D) "__class__" = some (some (.builtin "object.__class__"))
  cg : specialIn K (.builtin "object.__class__") "__get__" = some (some (.builtin "getset_descriptor.__get__"))
  ct : takesIn K (.builtin "object.__class__") = some true
  cm : mroIn K D (.type "object") = some true
def clsV : V → Option Value
  | .ref a => some (.ref a)
  | .ty n => some (.type n)
  | _ => none
theorem clsV_rel {c : V} {v u : Value} (h : clsV c = some v) (r : RelV c u) : u = v := by
  cases c <;> simp only [clsV] at h <;> cases h <;> exact r
section
variable {X : Cx} {ea C : Addr} {dx : Option Addr} {ob : Obj}
theorem call_isinstE (mk : Mkd X ea ob) (mo : MkO C none ob) (er : ErrK X.K C) : CallR X (.builtin "isinstance") (fun xs H Q => ∃ c v b, xs = [.ref ea, c] ∧ clsV c = some v ∧ kitOne X.K (.ref C) v = some b ∧ Q (.bl b) H) := by
  intro pins s σ H xs us Q I r h
  obtain ⟨c, v, b, rfl, hv, e, q⟩ := h
  obtain ⟨u1, u2, rfl, r1, r2⟩ := vals2 r
  cases (show u1 = Value.ref ea from r1)
  cases clsV_rel hv r2
  obtain ⟨p1, _⟩ := I.pin _ (List.mem_append_left _ mk.pin)
  obtain ⟨vs, sl, rfl, _⟩ := mo.ex
  exact kia_one (kitx_exc er.cl er.ca er.cg er.ct er.cm er.toErrA) I.kIn ⟨_, none, ⟨p1, rfl, rfl, True.intro⟩⟩ e (fun z => nomatch z) fun tk => ⟨.bl b, H, I.tok _, rfl, q⟩
end
end L2
set_option Elab.async false
set_option linter.all false
set_option maxRecDepth 100000
namespace L2
open PySem PySem.Spec PyProof.Rows PySem.Builtin PySem.Builtin.Str PySem.Builtin.Int
structure FunD (K : PySem.W.Frag) (x qual : Str) (st : Stmt) (f : Addr) (fd : FuncData) (items : Array Value) : Prop where
  ex : ∃ (oc : Value) (od : Option Addr) (kV doc pm : Value) (an : Option Addr) (cdv ct : Value) (osl : Array (Option Value)) (T : Addr) (oT : Obj) (n : Nat),
    fd = PySem.W.fnOf x qual (defArgs st) (defBody st) (defScope st) (.ref T) kV doc pm an cdv ct ∧ K.lookup f = some ⟨oc, od, .func fd, osl⟩ ∧ PySem.W.codeIn K cdv qual = true ∧ K.lookup T = some oT ∧ oT.data = .seq items n
  kp : PySem.W.keepIn K (.ref f) = true
section
variable {P : Program} {w : World} {K : PySem.W.Frag} {mg : Str → Option Value} {base : Heap} {x qual : Str} {st : Stmt} {f : Addr} {fd : FuncData} {items : Array Value} {N ps : List Str} {k : Nat} {sp : Sp}
theorem FunD.okR (F : FunD K x qual st f fd items) (S : FnScope N ps (defScope st)) (len : ∀ vs H Q E, sp vs H Q E → vs.length = ps.length)
    (hbody : ∀ (cdv : Value) (A : Around) (outer : List Env) (s : Shared) (H : Hp) (vs : List V) (Q : VK) (E : XK), Room k (A.deeper (envOfC qual (defScope st) s.heap.objs.size f cdv)) → sp vs H Q E →
      ∃ t, PSs (cxOf (CXE P w) P w K mg base N qual (defScope st) f cdv A outer s H E) (defBody st) t ∧ t { nx := fun _ H' => Q .non H', rt := Q } (start N vs) H) : FnOk P w K mg base (CXE P w) (k + 1) f fd ps sp := by
  obtain ⟨oc, od, kV, doc, pm, an, cdv, ct, osl, T, oT, n, rfl, lk, hcd, _⟩ := F.ex
  exact fn_of lk hcd S len fun A outer s H vs Q E hr hsp => hbody cdv A outer s H vs Q E hr hsp
theorem FunD.ok (F : FunD K x qual st f fd items) (S : FnScope N ps (defScope st)) (len : ∀ vs H Q E, sp vs H Q E → vs.length = ps.length)
    (hbody : ∀ (cdv : Value) (A : Around) (outer : List Env) (s : Shared) (H : Hp) (vs : List V) (Q : VK) (E : XK), Room k (A.deeper (envOfC qual (defScope st) s.heap.objs.size f cdv)) → sp vs H Q E →
      ∃ t, PSs (cxOf CX0 P w K mg base N qual (defScope st) f cdv A outer s H E).nox (defBody st) t ∧ t { nx := fun _ H' => Q .non H', rt := Q } (start N vs) H) : FnOk P w K mg base CX0 (k + 1) f fd ps sp := by
  obtain ⟨oc, od, kV, doc, pm, an, cdv, ct, osl, T, oT, n, rfl, lk, hcd, _⟩ := F.ex
  refine fn_of lk hcd S len fun A outer s H vs Q E hr hsp => ?_
  obtain ⟨t, h, q⟩ := hbody cdv A outer s H vs Q E hr hsp
  exact ⟨t, h.nox, q⟩
theorem FunD.binds {ds : List Value} (F : FunD K x qual st f fd items)
    (h : ∀ (T : Addr) (kV doc pm : Value) (an : Option Addr) (cdv ct : Value) (us : List Value), (us ++ ds).length = ps.length → ∃ k : Option (Array Value) → Sem (List (Str × Value)),
      bindArgs (PySem.W.fnOf x qual (defArgs st) (defBody st) (defScope st) (.ref T) kV doc pm an cdv ct) ⟨us, []⟩ = (seqItems? (.ref T) >>= k) ∧ k (some items) = pure (ps.zip (us ++ ds))) : Binds K fd ps ds := by
  obtain ⟨oc, od, kV, doc, pm, an, cdv, ct, osl, T, oT, n, rfl, lk, hcd, hT, hd⟩ := F.ex
  intro s us KX hl
  obtain ⟨k, h1, h2⟩ := h T kV doc pm an cdv ct us hl
  exact .of_defaults (k := k) rfl (KX _ _ hT) hd h1 h2
end
section
variable {X : Cx} {k : Nat} {ps : List Str} {tab : List (Addr × Sp)} {m : Str} {pos apos : Pos} {e o : Expr} {es : List Expr} {ta : TE} {t : TA}
end
theorem pg_pairC {X : Cx} {K : PySem.W.Frag} {scope : Scope} {cl : List (Str × Addr)} {a b : Str} {N : List Str} {C : Addr} {ex : List Addr} {s₀ : Shared} {H₀ : Hp} {k} {pa pb pos : Pos} (hK : X.K = K) (hc : Calm X) (hN : (a :: b :: N).Nodup) (la : Loc (compEnvC scope cl C X.env).scope a) (lb : Loc (compEnvC scope cl C X.env).scope b)
    (fa : (compEnvC scope cl C X.env).scope.names.lookup a = some .local) (fb : (compEnvC scope cl C X.env).scope.names.lookup b = some .local) :
    PG (cxComp X scope cl (a :: b :: N) C ex s₀ H₀) (.Tuple [.Name a pa, .Name b pb] k pos) (gTup K 2 (gCons (gName 0) (gCons (gName 1) gNil))) := by
  subst hK
  exact pg_tup (X := cxComp X scope cl (a :: b :: N) C ex s₀ H₀) (n := 2) (calm_comp hc) (pgs_cons (pg_name (i := 0) hN rfl la (.inr fa)) (pgs_cons (pg_name (i := 1) hN rfl lb (.inr fb)) pgs_nil))
theorem comp_pairs {K : PySem.W.Frag} {J : It} {H : Hp} {ts : List Addr} {u v : Addr → V} {tt : TT} {te : TE} {cs : St} {F : List V → Hp → Prop} (S : SrcIs J H (ts.map V.ref)) (ht : ∀ t ∈ ts, SqT K H t [u t, v t]) (p : Addr → Bool) (f : Addr → V)
    (htt : ∀ t ∈ ts, ∀ Q : Bool → Hp → Prop, Q (p t) H → tt (some (u t) :: some (v t) :: cs) H Q) (hte : ∀ t ∈ ts, p t = true → ∀ Q : VK, Q (f t) H → te (some (u t) :: some (v t) :: cs) H Q) (hn : ts.length ≤ sizeLine) (hF : F ((ts.filter p).map f) H) :
    ∃ W : Nat → Nat → List V → Hp → Prop, (∃ m, W 0 m [] H) ∧ CompW J (gTup K 2 (gCons (gName 0) (gCons (gName 1) gNil))) tt te (none :: none :: cs) W F := by
  refine ⟨fun i m ys H' => m = ts.length - i ∧ i ≤ ts.length ∧ H' = H ∧ ys = ((ts.take i).filter p).map f, ⟨ts.length, by simp, Nat.zero_le _, rfl, by simp⟩, ?_⟩
  rintro i m ys H' ⟨rfl, hi, rfl, rfl⟩
  have hlen : (((ts.take i).filter p).map f).length ≤ sizeLine := by
    rw [List.length_map]
    refine Nat.le_trans (List.length_filter_le _ _) ?_
    rw [List.length_take]
    omega
  by_cases hlt : i < ts.length
  · refine .inr ⟨S.go i (by rw [List.length_map]; exact hlt), fun ys' H'' => H'' = H' ∧ ys' = ((ts.take (i + 1)).filter p).map f, fun ys' H'' h => ⟨ts.length - (i + 1), by omega, rfl, hlt, h.1, h.2⟩, fun x H'' y => ?_⟩
    obtain ⟨rfl, hx⟩ := S.yld i x H'' (by rw [List.length_map]; exact hlt) y
    rw [List.getElem?_map] at hx
    obtain ⟨t, e, rfl⟩ := Option.map_eq_some_iff.mp hx
    have hm : t ∈ ts := List.mem_of_getElem? e
    have htk : ts.take (i + 1) = ts.take i ++ [t] := by
      rw [List.take_add_one, e]; rfl
    refine ⟨t, [u t, v t], rfl, ht t hm, rfl, u t, [v t], rfl, v t, [], rfl, rfl, ⟨by simp, fun j z hz => ?_⟩, ?_⟩
    · match j, hz with
      | 0, hz => cases hz
      | 1, hz => cases hz
      | (j + 2), hz => exact hz
    · refine htt t hm _ ?_
      cases hp : p t with
      | true =>
        rw [if_pos rfl]
        refine hte t hm hp _ ⟨hlen, rfl, ?_⟩
        rw [htk, List.filter_append, List.map_append]
        simp [hp]
      | false =>
        rw [if_neg (by decide)]
        refine ⟨rfl, ?_⟩
        rw [htk, List.filter_append, List.map_append]
        simp [hp]
  · have e : i = ts.length := by omega
    subst e
    refine .inl ⟨by have := S.stop; rw [List.length_map] at this; exact this, hlen, ?_⟩
    rw [List.take_length]
    exact hF
end L2
set_option Elab.async false
set_option linter.all false
set_option maxRecDepth 100000
namespace L2
open PySem PySem.Spec PyProof.Rows
section
variable {prog : Program} {w : World} {K : Type} [DecidableEq K] {knd : HeapKind prog w K} {A : Around} {E : Value → Shared → Prop} {s : Shared}
end
section
variable {prog : Program} {w : World} {K : Type} [DecidableEq K] {knd : HeapKind prog w K} {A : Around} {E : Value → Shared → Prop} {s : Shared}
end
section
variable {prog : Program} {w : World} {A : Around} {E : Value → Shared → Prop} {s : Shared}
end
section
variable {X : Cx} {pins : List (Addr × Obj)} {σ : St} {H : Hp} {s : Shared} {a : Addr}
end
section
variable {prog : Program} {w : World} {d : Addr}
end
theorem hu65 {k : Nat} {A : Around} (r : Room k A) : A.units + 64 + 1 < cLine := by have := r.un; omega
end L2
set_option Elab.async false
set_option linter.all false
set_option maxRecDepth 100000
namespace L2
open PySem PySem.Spec PyProof.Rows
section
variable {X : Cx}
end
end L2
set_option Elab.async false
set_option linter.all false
set_option maxRecDepth 100000
namespace L2
open PySem PySem.Spec PyProof.Rows
section
variable {prog : Program} {w : World} {K : Type} [DecidableEq K] {knd : KeyKind prog w K} {A : Around} {R : Result → Shared → Prop}
end
section
variable {prog : Program} {w : World} {K : Type} [DecidableEq K] {knd : KeyKind prog w K} {A : Around} {E : Value → Shared → Prop} {s : Shared}
end
section
variable {X : Cx}
end
end L2
set_option Elab.async false
set_option linter.all false
set_option maxRecDepth 100000
namespace L2
open PySem PySem.Spec PyProof.Rows
theorem chrs_of {x : Str} : ∀ {cs : List Nat} {vs : List Value}, vs.length = cs.length → (∀ (j : Nat) (v : Value), vs[j]? = some v → ∃ c u, cs[j]? = some c ∧ v = Value.str ⟨#[c]⟩ u) → Vals (cs.map chr1) vs
  | [], [], _, _ => .nil
  | [], _ :: _, h, _ => by simp at h
  | _ :: _, [], h, _ => by simp at h
  | c :: cs, v :: vs, h, f => by
    obtain ⟨c', u, e, rfl⟩ := f 0 v rfl
    cases e
    exact .cons ⟨u, rfl⟩ (chrs_of (x := x) (by simpa using h) fun j v e => by
      obtain ⟨c', u, e', h'⟩ := f (j + 1) v (by simpa using e)
      exact ⟨c', u, by simpa using e', h'⟩)
theorem call_listS {X : Cx} (hc : X.calm = true) : CallR X (.type "list") (fun xs H Q => ∃ x, xs = [.str x] ∧ x.length ≤ sizeLine ∧ ∀ l, H l = none → Q (.ref l) (upd H l (.lst (x.cps.toList.map chr1)))) := by
  intro pins s σ H xs us Q I r h
  obtain ⟨x, rfl, hz, q⟩ := h
  obtain ⟨u, rfl, rx⟩ := vals1 r
  obtain ⟨t, rfl⟩ := rx
  refine call_list_str (I.ok.hd hc) x t (hn := hz) fun h' tk acc' c' hk hS' hacc => ?_
  have hl : (x.cps.toList.map chr1).length ≤ sizeLine := by rw [List.length_map]; simpa [Str.length] using hz
  exact ⟨.ref s.heap.objs.size, _, I.laid (t' := tk) hk (Nat.le_refl _) (show ObjOk X.prog X.w _ h' _ (.lst (x.cps.toList.map chr1)) from
    ⟨hl, acc'.toList, c', chrs_of (x := x) (by simp [hacc.1]) fun j v e => by
      obtain ⟨c, u, hc', rfl⟩ := hacc.2 j v (by simpa using e)
      exact ⟨c, u, by simpa using hc', rfl⟩, by simpa using hS'⟩), rfl, q _ (I.hok.fresh (Nat.le_refl _))⟩
inductive KHits (K : PySem.W.Frag) (H : Hp) (kb : List (Key × V)) : List (Key × V) → Bool → Prop
  | nil : KHits K H kb [] true
  | miss {k : Key} {v : V} {r : List (Key × V)} : valV kb k = none → KHits K H kb ((k, v) :: r) false
  | hit {k : Key} {v y : V} {r : List (Key × V)} {d e : PyData} {b : Bool} : valV kb k = some y → Den K H v d → Den K H y e → SeqAt.shaped d = true → SeqAt.shaped e = true → KHits K H kb r b → KHits K H kb ((k, v) :: r) (PyData.eqv d e && b)
theorem KHits.keq {X : Cx} {pins : List (Addr × Obj)} {σ : St} {H : Hp} {s : Shared} (I : Inv X pins σ H s) (hu : X.A.units + 64 + 1 < cLine) {kb : List (Key × V)} {vb : List (Key × Value)} (rb : KV kb vb)
    {ka : List (Key × V)} {b : Bool} (h : KHits X.K H kb ka b) : ∀ {va : List (Key × Value)}, KV ka va → PySem.W.KeqHits X.A.in1 s vb va b := by
  induction h with
  | nil => intro va ra; cases ra; exact .nil
  | @miss k v r hn =>
    intro va ra
    cases ra with
    | @cons p q _ _ h t =>
      obtain ⟨k', u⟩ := q
      obtain ⟨e, ru⟩ := h
      have e : k = k' := e
      subst e
      have := rb.val k
      rw [hn] at this
      refine .miss ?_
      cases hv : PySem.valueAt vb k with
      | none => rfl
      | some z => rw [hv] at this; exact this.elim
  | @hit k v y r d e b hv d1 d2 s1 s2 hr ih =>
    intro va ra
    cases ra with
    | @cons p q _ _ h t =>
      obtain ⟨k', u⟩ := q
      obtain ⟨e, ru⟩ := h
      have e : k = k' := e
      subst e
      have := rb.val k
      rw [hv] at this
      cases hz : PySem.valueAt vb k with
      | none => rw [hz] at this; exact this.elim
      | some z =>
        rw [hz] at this
        obtain ⟨as, r1⟩ := d1.reads I ru
        obtain ⟨bs, r2⟩ := d2.reads I this
        exact .hit hz (PySem.W.keq_at (A := X.A) r1 r2 s1 s2 hu) (ih t)
def rEqK (K : PySem.W.Frag) (neg : Bool) : R2 := fun x y H Q => ∃ a b ka kb r, x = .ref a ∧ y = .ref b ∧ H a = some (.dK ka) ∧ H b = some (.dK kb) ∧ (ka.length = kb.length → KHits K H kb ka r) ∧ Q (.bl (if neg then !(ka.length == kb.length && r) else (ka.length == kb.length && r))) H
theorem op_neK {X : Cx} (hu : X.A.units + 64 + 1 < cLine) : OpR X (compareOp .NotEq) (rEqK X.K true) := by
  intro pins s σ H x y v u Q I rx ry h
  obtain ⟨a, b, ka, kb, r, rfl, rfl, ea, eb, hh, q⟩ := h
  cases rx
  cases ry
  obtain ⟨_, ha, va, ra, da⟩ := dk_of I.hok ea
  obtain ⟨_, hb, vb, rb, db⟩ := dk_of I.hok eb
  refine PySem.W.keq_ne ha hb da db (by omega) (fun e => (hh (by rw [ra.length, rb.length, e])).keq I hu rb ra) (fin_bl I q ?_)
  rw [ra.length, rb.length]
  rfl
theorem op_neA {X : Cx} (hu : X.A.units + 64 + 1 < cLine) : OpR X (compareOp .NotEq) (fun x y H Q => rEqD X.K true x y H Q ∨ rEqK X.K true x y H Q) := by
  intro pins s σ H x y v u Q I rx ry h
  rcases h with h | h
  · exact op_neD (by omega) pins s σ H x y v u Q I rx ry h
  · exact op_neK hu pins s σ H x y v u Q I rx ry h
end L2
set_option Elab.async false
set_option linter.all false
set_option maxRecDepth 100000
namespace Fl
open PySem L2
def sgOk (c : Nat) : Prop := c = 46 ∨ c = 35 ∨ c = 43 ∨ c = 126 ∨ c = 124
structure Good (w h : Nat) (sg : List Nat) : Prop where
  w0 : 1 ≤ w
  w1 : w ≤ 10
  h0 : 1 ≤ h
  h1 : h ≤ 10
  len : sg.length = w * h
  ok : ∀ c ∈ sg, sgOk c
  cell : ∃ c ∈ sg, c ≠ 35
def txt (cs : List Nat) : Str := ⟨cs.toArray⟩
def lineOf (w : Nat) (sg : List Nat) (j : Nat) : Str := txt ((sg.drop (w * j)).take w)
def linesOf (w h : Nat) (sg : List Nat) : List Str := (List.range h).map (lineOf w sg)
theorem len100 {w h : Nat} {sg : List Nat} (g : Good w h sg) : 1 ≤ sg.length ∧ sg.length ≤ 100 := by
  rw [g.len]
  exact ⟨Nat.mul_le_mul g.w0 g.h0, Nat.mul_le_mul g.w1 g.h1⟩
theorem txt_len (cs : List Nat) : (txt cs).length = cs.length := by simp [txt, Str.length]
theorem txt_list (cs : List Nat) : (txt cs).cps.toList = cs := by simp [txt]
theorem line_in {w h : Nat} {j : Nat} (hj : j < h) : w * j + w ≤ w * h := by
  have := Nat.mul_le_mul_left w (show j + 1 ≤ h from hj)
  rw [Nat.mul_add, Nat.mul_one] at this
  exact this
theorem line_len {w h : Nat} {sg : List Nat} (g : Good w h sg) {j : Nat} (hj : j < h) : (lineOf w sg j).length = w := by
  have := line_in (w := w) hj
  have := g.len
  unfold lineOf
  rw [txt_len, List.length_take, List.length_drop]
  omega
theorem lines_len (w h : Nat) (sg : List Nat) : (linesOf w h sg).length = h := by simp [linesOf]
theorem lines_get {w h : Nat} {sg : List Nat} {j : Nat} (hj : j < h) : (linesOf w h sg)[j]? = some (lineOf w sg j) := by
  simp [linesOf, hj]
theorem flat_lines (w : Nat) (sg : List Nat) : ∀ h : Nat, ((List.range h).map fun j => (sg.drop (w * j)).take w).flatten = sg.take (w * h)
  | 0 => by simp
  | h + 1 => by
    rw [List.range_succ, List.map_append, List.flatten_append, flat_lines w sg h, Nat.mul_add, Nat.mul_one]
    simp [List.take_add]
theorem join_flat : ∀ ys : List Str, (Txt.join (Str.ofString "") ys).cps.toList = (ys.map (·.cps.toList)).flatten := by
  have e : ∀ ys : List Str, (Str.join (Str.ofString "") ys).cps.toList = (ys.map (·.cps.toList)).flatten := by
    intro ys
    have e0 : (Str.ofString "").cps.toList = [] := by decide +kernel
    induction ys with
    | nil => rfl
    | cons x r ih =>
      cases r with
      | nil => simp [Str.join]
      | cons y r =>
        show (x ++ Str.ofString "" ++ Str.join (Str.ofString "") (y :: r)).cps.toList = _
        rw [str_app_list, str_app_list, e0, ih]
        simp
  intro ys
  show (Builtin.Str.glued (Str.ofString "") ys).cps.toList = _
  rw [StrLaws.glued_eq_join, e]
theorem join_lines {w h : Nat} {sg : List Nat} (g : Good w h sg) : Txt.join (Str.ofString "") (linesOf w h sg) = txt sg := by
  refine str_ext ?_
  rw [join_flat, txt_list]
  unfold linesOf
  rw [List.map_map]
  have : ((fun x : Str => x.cps.toList) ∘ lineOf w sg) = fun j => (sg.drop (w * j)).take w := by
    funext j
    exact txt_list _
  rw [this, flat_lines, ← g.len, List.take_length]
theorem line_ok {w h : Nat} {sg : List Nat} (g : Good w h sg) {j : Nat} : ∀ c ∈ (lineOf w sg j).cps.toList, sgOk c := by
  intro c hc
  unfold lineOf at hc
  rw [txt_list] at hc
  exact g.ok c (List.mem_of_mem_drop (List.mem_of_mem_take hc))
def at_ (sg : List Nat) (i : Int) : Nat := sg.getD i.toNat 0
theorem slice_list {cs : List Nat} {a b : Nat} (hab : a ≤ b) (hb : b ≤ cs.length) : (Txt.slice (txt cs) (some (a : Int)) (some (b : Int))).cps.toList = (cs.drop a).take (b - a) := by
  have hi : Builtin.Str.strSliceIndices (some (a : Int)) (some (b : Int)) 1 (txt cs).length = (List.range (b - a)).map fun k => a + k := by
    rw [txt_len]
    unfold Builtin.Str.strSliceIndices sliceRange
    have e1 : ¬ ((a : Int) < 0) := by omega
    have e2 : ¬ ((b : Int) < 0) := by omega
    simp only [e1, e2, if_false, show (1 : Int) > 0 by decide, if_true, Int.ediv_one]
    have e3 : max 0 (min (a : Int) (cs.length : Int)) = a := by omega
    have e4 : max 0 (min (b : Int) (cs.length : Int)) = b := by omega
    rw [e3, e4]
    have e5 : (if (a : Int) < b then (b : Int) - a + 1 - 1 else 0).toNat = b - a := by split <;> omega
    rw [e5]
    refine List.map_congr_left fun k _ => ?_
    omega
  have pick : ((List.range (b - a)).map fun k => a + k).filterMap ((txt cs).cps[·]?) = (cs.drop a).take (b - a) := by
    refine List.ext_getElem? fun j => ?_
    rw [HT.filterMap_all (g := fun m => cs.getD m 0) (fun m hm => ?_)]
    · rw [List.getElem?_map, List.getElem?_map]
      by_cases hj : j < b - a
      · rw [List.getElem?_range hj, List.getElem?_take_of_lt hj, List.getElem?_drop]
        have : a + j < cs.length := by omega
        simp [this]
      · rw [List.getElem?_eq_none (by simpa using hj), List.getElem?_eq_none (by rw [List.length_take]; omega)]
        rfl
    · obtain ⟨k, hk, rfl⟩ := List.mem_map.mp hm
      have := List.mem_range.mp hk
      have : a + k < cs.length := by omega
      simp [txt, this]
  unfold Txt.slice
  rw [hi]
  split
  · rename_i h
    have h' : b - a = cs.length := by
      simp only [beq_self_eq_true, Bool.true_and, beq_iff_eq, List.length_map, List.length_range, txt_len] at h
      exact h
    have ha : a = 0 := by omega
    have hbl : b = cs.length := by omega
    rw [txt_list, ha, hbl]
    simp
  · show (List.filterMap _ _).toArray.toList = _
    rw [List.toList_toArray]
    exact pick
theorem slice_from1 {cs : List Nat} : (Txt.slice (txt cs) (some (1 : Int)) none).cps.toList = cs.drop 1 := by
  cases cs with
  | nil => rfl
  | cons c r =>
    have hi : Builtin.Str.strSliceIndices (some (1 : Int)) none 1 (txt (c :: r)).length = (List.range r.length).map fun k => 1 + k := by
      rw [txt_len]
      unfold Builtin.Str.strSliceIndices sliceRange
      simp only [show ¬ ((1 : Int) < 0) by decide, if_false, show (1 : Int) > 0 by decide, if_true, Int.ediv_one, List.length_cons]
      have e3 : max 0 (min (1 : Int) ((r.length + 1 : Nat) : Int)) = 1 := by omega
      rw [e3]
      have e5 : (if (1 : Int) < ((r.length + 1 : Nat) : Int) then ((r.length + 1 : Nat) : Int) - 1 + 1 - 1 else 0).toNat = r.length := by split <;> omega
      rw [e5]
      refine List.map_congr_left fun k _ => ?_
      omega
    unfold Txt.slice
    rw [hi, if_neg (by simp [txt_len])]
    show (List.filterMap _ _).toArray.toList = _
    rw [List.toList_toArray, HT.filterMap_all (g := fun m => (c :: r).getD m 0) (fun m hm => ?_)]
    · refine List.ext_getElem? fun j => ?_
      rw [List.getElem?_map, List.getElem?_map]
      by_cases hj : j < r.length
      · rw [List.getElem?_range hj]
        simp [hj, Nat.add_comm 1 j]
      · rw [List.getElem?_eq_none (by simpa using hj), List.getElem?_eq_none (by simpa using hj)]
        rfl
    · obtain ⟨k, hk, rfl⟩ := List.mem_map.mp hm
      have := List.mem_range.mp hk
      simp [txt, Nat.add_comm 1 k, this]
theorem slice_line {w h : Nat} {sg : List Nat} (hl : sg.length = w * h) {j : Nat} (hj : j < h) : Txt.slice (txt sg) (some ((w * j : Nat) : Int)) (some ((w * j + w : Nat) : Int)) = lineOf w sg j := by
  refine str_ext ?_
  have := line_in (w := w) hj
  rw [slice_list (by omega) (by omega), lineOf, txt_list]
  congr 1
  omega
end Fl
set_option Elab.async false
set_option linter.all false
set_option maxRecDepth 100000
namespace Pf
open PySem L2
def top (i : Nat) : Stmt := PySem.Challenge.pw_floorways_k05_floors_refused.main.body.getD i (.Pass ⟨0, 0, 0, 0⟩)
abbrev s_is_whole : Stmt := top 19
abbrev s_is_among : Stmt := top 20
abbrev s_check_row : Stmt := top 26
abbrev s_check_floor : Stmt := top 27
abbrev s_Floor_init : Stmt := inClass (top 28) 0
abbrev s_Lat : Stmt := top 30
abbrev s_Lmixed : Stmt := top 31
abbrev s_Llines : Stmt := top 32
abbrev s_Lword : Stmt := top 33
abbrev s_Lsaid : Stmt := top 34
abbrev s_Lgood : Stmt := top 35
abbrev s_Lsign_of : Stmt := top 36
abbrev s_Lbent : Stmt := top 37
abbrev s_law : Stmt := top 38
structure Ad where
  is_whole : Addr
  is_among : Addr
  check_row : Addr
  check_floor : Addr
  Floor_init : Addr
  Lat : Addr
  Lmixed : Addr
  Llines : Addr
  Lword : Addr
  Lsaid : Addr
  Lgood : Addr
  Lsign_of : Addr
  Lbent : Addr
  law : Addr
  C_Floor : Addr
  C_BadFloor : Addr
  C_FloorError : Addr
  C_BadKind : Addr
  C_BadCell : Addr
  C_BadCharge : Addr
  C_BadStops : Addr
  C_BadWay : Addr
  C_Empty : Addr
  C_NoCarrier : Addr
  C_NoTask : Addr
  C_Meets : Addr
  C_Taken : Addr
  C_Busy : Addr
  C_NoReserve : Addr
  C_Closed : Addr
  C_Jammed : Addr
structure Txt (K : PySem.W.Frag) (mg : Str → Option Value) (ad : Ad) : Prop where
  b_len : mg "len" = none
  b_range : mg "range" = none
  b_isinstance : mg "isinstance" = none
  b_all : mg "all" = none
  b_int : mg "int" = none
  b_bool : mg "bool" = none
  b_str : mg "str" = none
  b_list : mg "list" = none
  b_tuple : mg "tuple" = none
  b_ValueError : mg "ValueError" = none
  c_WALL : ∃ u, mg "WALL" = some u ∧ RelV (V.str (Str.ofString "#")) u
  c_SIGNS : ∃ u, mg "SIGNS" = some u ∧ RelV (V.str (Str.ofString ".#+~|")) u
  c_MOST_ROWS : ∃ u, mg "MOST_ROWS" = some u ∧ RelV (V.int 10) u
  c_MOST_SIGNS : ∃ u, mg "MOST_SIGNS" = some u ∧ RelV (V.int 10) u
  mg_is_whole : mg "is_whole" = some (.ref ad.is_whole)
  k_is_whole : PySem.W.keepIn K (.ref ad.is_whole) = true
  mg_is_among : mg "is_among" = some (.ref ad.is_among)
  k_is_among : PySem.W.keepIn K (.ref ad.is_among) = true
  mg_check_row : mg "check_row" = some (.ref ad.check_row)
  k_check_row : PySem.W.keepIn K (.ref ad.check_row) = true
  mg_check_floor : mg "check_floor" = some (.ref ad.check_floor)
  k_check_floor : PySem.W.keepIn K (.ref ad.check_floor) = true
  mg_Lat : mg "_law_at" = some (.ref ad.Lat)
  k_Lat : PySem.W.keepIn K (.ref ad.Lat) = true
  mg_Lmixed : mg "_law_mixed" = some (.ref ad.Lmixed)
  k_Lmixed : PySem.W.keepIn K (.ref ad.Lmixed) = true
  mg_Llines : mg "_law_lines" = some (.ref ad.Llines)
  k_Llines : PySem.W.keepIn K (.ref ad.Llines) = true
  mg_Lword : mg "_law_word" = some (.ref ad.Lword)
  k_Lword : PySem.W.keepIn K (.ref ad.Lword) = true
  mg_Lsaid : mg "_law_said" = some (.ref ad.Lsaid)
  k_Lsaid : PySem.W.keepIn K (.ref ad.Lsaid) = true
  mg_Lgood : mg "_law_good" = some (.ref ad.Lgood)
  k_Lgood : PySem.W.keepIn K (.ref ad.Lgood) = true
  mg_Lsign_of : mg "_law_sign_of" = some (.ref ad.Lsign_of)
  k_Lsign_of : PySem.W.keepIn K (.ref ad.Lsign_of) = true
  mg_Lbent : mg "_law_bent" = some (.ref ad.Lbent)
  k_Lbent : PySem.W.keepIn K (.ref ad.Lbent) = true
  mg_law : mg "law" = some (.ref ad.law)
  k_law : PySem.W.keepIn K (.ref ad.law) = true
  mg_Floor : mg "Floor" = some (.ref ad.C_Floor)
  cl_Floor : Cls K ad.C_Floor
  n_Floor_wide : NoAttr K ad.C_Floor "wide"
  n_Floor_high : NoAttr K ad.C_Floor "high"
  n_Floor_lines : NoAttr K ad.C_Floor "lines"
  n_Floor_signs : NoAttr K ad.C_Floor "signs"
  mk_Floor : Mk K ad.C_Floor ad.Floor_init
  mg_BadFloor : mg "BadFloor" = some (.ref ad.C_BadFloor)
  er_BadFloor : ErrC K ad.C_BadFloor
  mg_FloorError : mg "FloorError" = some (.ref ad.C_FloorError)
  mg_BadKind : mg "BadKind" = some (.ref ad.C_BadKind)
  mg_BadCell : mg "BadCell" = some (.ref ad.C_BadCell)
  mg_BadCharge : mg "BadCharge" = some (.ref ad.C_BadCharge)
  mg_BadStops : mg "BadStops" = some (.ref ad.C_BadStops)
  mg_BadWay : mg "BadWay" = some (.ref ad.C_BadWay)
  mg_Empty : mg "Empty" = some (.ref ad.C_Empty)
  mg_NoCarrier : mg "NoCarrier" = some (.ref ad.C_NoCarrier)
  mg_NoTask : mg "NoTask" = some (.ref ad.C_NoTask)
  mg_Meets : mg "Meets" = some (.ref ad.C_Meets)
  mg_Taken : mg "Taken" = some (.ref ad.C_Taken)
  mg_Busy : mg "Busy" = some (.ref ad.C_Busy)
  mg_NoReserve : mg "NoReserve" = some (.ref ad.C_NoReserve)
  mg_Closed : mg "Closed" = some (.ref ad.C_Closed)
  mg_Jammed : mg "Jammed" = some (.ref ad.C_Jammed)
  xm_BadFloor_FloorError : PySem.W.exmOne K (.ref ad.C_BadFloor) (.ref ad.C_FloorError) = some true
  is_BadFloor_BadFloor : PySem.W.kitOne K (.ref ad.C_BadFloor) (.ref ad.C_BadFloor) = some true
  is_BadFloor_BadKind : PySem.W.kitOne K (.ref ad.C_BadFloor) (.ref ad.C_BadKind) = some false
  is_BadFloor_BadCell : PySem.W.kitOne K (.ref ad.C_BadFloor) (.ref ad.C_BadCell) = some false
  is_BadFloor_BadCharge : PySem.W.kitOne K (.ref ad.C_BadFloor) (.ref ad.C_BadCharge) = some false
  is_BadFloor_BadStops : PySem.W.kitOne K (.ref ad.C_BadFloor) (.ref ad.C_BadStops) = some false
  is_BadFloor_BadWay : PySem.W.kitOne K (.ref ad.C_BadFloor) (.ref ad.C_BadWay) = some false
  is_BadFloor_Empty : PySem.W.kitOne K (.ref ad.C_BadFloor) (.ref ad.C_Empty) = some false
  is_BadFloor_NoCarrier : PySem.W.kitOne K (.ref ad.C_BadFloor) (.ref ad.C_NoCarrier) = some false
  is_BadFloor_NoTask : PySem.W.kitOne K (.ref ad.C_BadFloor) (.ref ad.C_NoTask) = some false
  is_BadFloor_Meets : PySem.W.kitOne K (.ref ad.C_BadFloor) (.ref ad.C_Meets) = some false
  is_BadFloor_Taken : PySem.W.kitOne K (.ref ad.C_BadFloor) (.ref ad.C_Taken) = some false
  is_BadFloor_Busy : PySem.W.kitOne K (.ref ad.C_BadFloor) (.ref ad.C_Busy) = some false
  is_BadFloor_NoReserve : PySem.W.kitOne K (.ref ad.C_BadFloor) (.ref ad.C_NoReserve) = some false
  is_BadFloor_Closed : PySem.W.kitOne K (.ref ad.C_BadFloor) (.ref ad.C_Closed) = some false
  is_BadFloor_Jammed : PySem.W.kitOne K (.ref ad.C_BadFloor) (.ref ad.C_Jammed) = some false
  is_BadFloor_FloorError : PySem.W.kitOne K (.ref ad.C_BadFloor) (.ref ad.C_FloorError) = some true
  is_BadFloor_ValueError : PySem.W.kitOne K (.ref ad.C_BadFloor) (.type "ValueError") = some true
  ga_BadFloor : PySem.W.findIn K (.ref ad.C_BadFloor) "__getattribute__" = some (some (.builtin "BaseException.__getattribute__"))
  gn_BadFloor : PySem.W.findIn K (.ref ad.C_BadFloor) "__getattr__" = some none
  bx_BadFloor : PySem.W.mroIn K ad.C_BadFloor (.type "BaseException") = some true
  cl_BadFloor : (PySem.W.clsIn K ad.C_BadFloor).isSome = true
  ca_BadFloor : PySem.W.findIn K (.ref ad.C_BadFloor) "__class__" = some (some (.builtin "object.__class__"))
  cm_BadFloor : PySem.W.mroIn K ad.C_BadFloor (.type "object") = some true
  cgx : PySem.W.specialIn K (.builtin "object.__class__") "__get__" = some (some (.builtin "getset_descriptor.__get__"))
  ctx : PySem.W.takesIn K (.builtin "object.__class__") = some true
def isI : V → Bool
  | .int _ => true
  | _ => false
def isIB : V → Bool
  | .int _ => true
  | .bl _ => true
  | _ => false
def isB : V → Bool
  | .bl _ => true
  | _ => false
def TyB (K : PySem.W.Frag) (H : Hp) (x : V) : Prop := ∃ n, TyOf K H x (.type n)
theorem kit_int {K : PySem.W.Frag} {H : Hp} {x : V} {n : String} (h : TyOf K H x (.type n)) : PySem.W.kitOne K (.type n) (.type "int") = some (isIB x) := by
  cases h <;> rfl
theorem kit_bool {K : PySem.W.Frag} {H : Hp} {x : V} {n : String} (h : TyOf K H x (.type n)) : PySem.W.kitOne K (.type n) (.type "bool") = some (isB x) := by
  cases h <;> rfl
def spWhole (K : PySem.W.Frag) : Sp := fun vs H Q _ => ∃ x, vs = [x] ∧ TyB K H x ∧ Q (.bl (isI x)) H
theorem tSeq_cut {t u : TS} {D : Ends} {σ : St} {H : Hp} (M : St → Hp → Prop) (h1 : ∀ nx : St → Hp → Prop, (∀ σ' H', M σ' H' → nx σ' H') → t { D with nx := nx } σ H) (h2 : ∀ σ' H', M σ' H' → u D σ' H') : tSeq t u D σ H := h1 (u D) h2
def amg : V → Int → Int → Bool
  | .int i, lo, hi => decide (lo ≤ i) && decide (i ≤ hi)
  | _, _, _ => false
def spAmong (K : PySem.W.Frag) : Sp := fun vs H Q _ => ∃ x lo hi, vs = [x, .int lo, .int hi] ∧ TyB K H x ∧ Q (.bl (amg x lo hi)) H
def spAt (K : PySem.W.Frag) : Sp := fun vs H Q _ => ∃ (a : Addr) (ns : List Int) (k : Int), vs = [.ref a, .int k] ∧ SqL K H a (ns.map V.int) ∧ ns.length ≤ 63 ∧ 0 ≤ k ∧ k ≤ 1000 ∧ ∀ r : Int, 0 ≤ r → r < 2147483647 → Q (.int r) H
open Fl
def flds (w h : Nat) (l : Addr) (sg : List Nat) : List (Str × V) := putF "signs" (.str (txt sg)) (putF "lines" (.ref l) (putF "high" (.int (h : Int)) (putF "wide" (.int (w : Int)) [])))
def LinesAt (H : Hp) (l : Addr) (w h : Nat) (sg : List Nat) : Prop := H l = some (.lst ((linesOf w h sg).map V.str))
structure FloorAt (C : Addr) (H : Hp) (p : Addr) (w h : Nat) (sg : List Nat) : Prop where
  ob : ∃ dx l, H p = some (.ins C dx (flds w h l sg)) ∧ LinesAt H l w h sg
theorem FloorAt.same {C : Addr} {H H' : Hp} {p : Addr} {w h : Nat} {sg : List Nat} (F : FloorAt C H p w h sg) (s : Same H H') : FloorAt C H' p w h sg := by
  obtain ⟨dx, l, h1, h2⟩ := F.ob
  exact ⟨⟨dx, l, s _ _ h1, s _ _ h2⟩⟩
theorem mem_sgn {c : Nat} (h : sgOk c) : c ∈ (Str.ofString ".#+~|").cps.toList := by
  have e : (Str.ofString ".#+~|").cps.toList = [46, 35, 43, 126, 124] := by decide +kernel
  rw [e]
  rcases h with z | z | z | z | z <;> simp [z]
def inSg : V → V
  | .str z => .bl (decide (z.cps.getD 0 0 ∈ (Str.ofString ".#+~|").cps.toList))
  | _ => .bl false
def isWall : V → V
  | .str z => .bl (decide (z = Str.ofString "#"))
  | _ => .bl false
theorem wall_eq (c : Nat) : ((⟨#[c]⟩ : Str) = Str.ofString "#") ↔ c = 35 := by
  have e : (Str.ofString "#").cps = #[35] := by decide +kernel
  constructor
  · intro h
    have := congrArg Str.cps h
    rw [e] at this
    simpa using this
  · intro h
    subst h
    exact str_ext (by rw [e])
def lineV (w : Nat) (sg : List Nat) : V → V
  | .int i => .str (Txt.slice (txt sg) (some ((w : Int) * i)) (some ((w : Int) * i + (w : Int))))
  | v => v
def spMixed : Sp := fun vs H Q _ => ∃ (c k : Int), vs = [.int c, .int k] ∧ 0 ≤ c ∧ c < 2147483647 ∧ 0 ≤ k ∧ k ≤ 1000 ∧ ∀ r : Int, 0 ≤ r → r < 2147483647 → Q (.int r) H
def spLines (K : PySem.W.Frag) : Sp := fun vs H Q _ => ∃ (a : Addr) (ns : List Int) (k m : Int), vs = [.ref a, .int k, .int m] ∧ SqL K H a (ns.map V.int) ∧ ns.length ≤ 63 ∧ 0 ≤ k ∧ k ≤ 100 ∧ 1 ≤ m ∧ m ≤ 10 ∧ ∀ l H' w h sg, H l = none → Same H H' → LinesAt H' l w h sg → Good w h sg → Q (.ref l) H'
def SameB (k : Addr) (H H' : Hp) : Prop := ∀ b o, H b = some o → b ≠ k → H' b = some o
theorem _root_.L2.Same.b {H H' : Hp} (s : Same H H') (k : Addr) : SameB k H H' := fun b o h _ => s b o h
theorem SameB.trans {k : Addr} {H H1 H2 : Hp} (a : SameB k H H1) (b : SameB k H1 H2) : SameB k H H2 := fun c o h n => b c o (a c o h n) n
def KeptOk (H : Hp) (k : Addr) (n : Nat) : Prop := ∃ ts : List Addr, ts.length ≤ n ∧ H k = some (.lst (ts.map V.ref)) ∧ ∀ t ∈ ts, ∃ (a b : Addr) (xs : List Int), H t = some (.tup [.ref a, .ref b]) ∧ H a = some (.lst (xs.map V.int)) ∧ H b = some (.lst (xs.map V.int)) ∧ a ≠ k ∧ b ≠ k ∧ xs.length ≤ 1000
theorem KeptOk.same {H H' : Hp} {k : Addr} {n : Nat} (h : KeptOk H k n) (s : Same H H') : KeptOk H' k n := by
  obtain ⟨ts, h1, h2, h3⟩ := h
  refine ⟨ts, h1, s _ _ h2, fun t ht => ?_⟩
  obtain ⟨a, b, xs, e1, e2, e3, r⟩ := h3 t ht
  exact ⟨a, b, xs, s _ _ e1, s _ _ e2, s _ _ e3, r⟩
theorem KeptOk.mono {H : Hp} {k : Addr} {n m : Nat} (h : KeptOk H k n) (hm : n ≤ m) : KeptOk H k m := by
  obtain ⟨ts, h1, h2, h3⟩ := h
  exact ⟨ts, Nat.le_trans h1 hm, h2, h3⟩
theorem KeptOk.add {H : Hp} {k t a b : Addr} {n : Nat} {xs : List Int} (h : KeptOk H k n) (ht : H t = some (.tup [.ref a, .ref b])) (ha : H a = some (.lst (xs.map V.int))) (hb : H b = some (.lst (xs.map V.int))) (na : a ≠ k) (nb : b ≠ k) (hx : xs.length ≤ 1000) :
    ∃ ys, H k = some (.lst ys) ∧ ys.length ≤ n ∧ KeptOk (upd H k (.lst (ys ++ [V.ref t]))) k (n + 1) := by
  obtain ⟨ts, h1, h2, h3⟩ := h
  refine ⟨_, h2, by rw [List.length_map]; exact h1, ts ++ [t], by simp; exact h1, by rw [upd_same]; simp, fun u hu => ?_⟩
  have key : ∀ {u a b : Addr} {xs : List Int}, H u = some (.tup [.ref a, .ref b]) → H a = some (.lst (xs.map V.int)) → H b = some (.lst (xs.map V.int)) → a ≠ k → b ≠ k → xs.length ≤ 1000 →
      ∃ (a b : Addr) (xs : List Int), upd H k (.lst (ts.map V.ref ++ [V.ref t])) u = some (.tup [.ref a, .ref b]) ∧ upd H k (.lst (ts.map V.ref ++ [V.ref t])) a = some (.lst (xs.map V.int)) ∧ upd H k (.lst (ts.map V.ref ++ [V.ref t])) b = some (.lst (xs.map V.int)) ∧ a ≠ k ∧ b ≠ k ∧ xs.length ≤ 1000 :=
    fun {u a b xs} e1 e2 e3 n1 n2 hx => ⟨a, b, xs, by rw [upd_ne (ne_of e1 h2 (by intro z; cases z))]; exact e1, by rw [upd_ne n1]; exact e2, by rw [upd_ne n2]; exact e3, n1, n2, hx⟩
  rcases List.mem_append.mp hu with y | y
  · obtain ⟨a, b, xs, e1, e2, e3, n1, n2, hx⟩ := h3 u y
    exact key e1 e2 e3 n1 n2 hx
  · obtain rfl : u = t := by simpa using y
    exact key ht ha hb na nb hx
def KeptNo (H : Hp) (k x : Addr) : Prop := ∀ ts : List Addr, H k = some (.lst (ts.map V.ref)) → ∀ t ∈ ts, ∀ a b, H t = some (.tup [.ref a, .ref b]) → a ≠ x ∧ b ≠ x
theorem map_ref_inj {ts us : List Addr} (h : ts.map V.ref = us.map V.ref) : ts = us := by
  induction ts generalizing us with
  | nil => cases us with
    | nil => rfl
    | cons u us => cases h
  | cons t ts ih => cases us with
    | nil => cases h
    | cons u us =>
      rw [List.map_cons, List.map_cons] at h
      obtain ⟨e1, e2⟩ := List.cons.inj h
      rw [V.ref.inj e1, ih e2]
theorem KeptNo.same {H H' : Hp} {k y : Addr} {n : Nat} (h : KeptNo H k y) (hK : KeptOk H k n) (s : Same H H') : KeptNo H' k y := by
  obtain ⟨ts, _, h2, h3⟩ := hK
  intro us hu t ht a b e
  rw [s _ _ h2] at hu
  have := map_ref_inj (HO.lst.inj (Option.some.inj hu))
  subst this
  obtain ⟨a', b', xs, e1, _⟩ := h3 t ht
  rw [s _ _ e1] at e
  have e4 := HO.tup.inj (Option.some.inj e)
  cases e4
  exact h ts h2 t ht a b e1
theorem KeptNo.add {H : Hp} {k t a b y : Addr} {ys : List V} {ts : List Addr} (h : KeptNo H k y) (hk : H k = some (.lst (ts.map V.ref))) (ht : H t = some (.tup [.ref a, .ref b])) (na : a ≠ y) (nb : b ≠ y) : KeptNo (upd H k (.lst (ts.map V.ref ++ [V.ref t]))) k y := by
  intro us hu u hu' a' b' e
  rw [upd_same] at hu
  have e0 : us = ts ++ [t] := (map_ref_inj (by rw [List.map_append]; exact HO.lst.inj (Option.some.inj hu))).symm
  subst e0
  have nuk : u ≠ k := fun z => by rw [z, upd_same] at e; cases e
  rw [upd_ne nuk] at e
  rcases List.mem_append.mp hu' with q | q
  · exact h ts hk u q a' b' e
  · obtain rfl : u = t := by simpa using q
    rw [ht] at e
    have e4 := HO.tup.inj (Option.some.inj e)
    cases e4
    exact ⟨na, nb⟩
theorem strOk_of {x : Str} (h : ∀ c ∈ x.cps.toList, c < 1114112) : PyData.strOk x = true := by
  unfold PyData.strOk
  rw [Array.all_eq_true]
  intro i hi
  have := h x.cps[i] (by simp)
  simpa using this
theorem tyB_same {K : PySem.W.Frag} {H H' : Hp} {v : V} (S : Same H H') (h : TyB K H v) : TyB K H' v := by
  obtain ⟨n, t⟩ := h
  cases t with
  | non => exact ⟨_, .non⟩
  | bl x => exact ⟨_, .bl x⟩
  | int i => exact ⟨_, .int i⟩
  | str x => exact ⟨_, .str x⟩
  | flt x => exact ⟨_, .flt x⟩
  | lst e => exact ⟨_, .lst (S _ _ e)⟩
  | frz e => exact ⟨_, .frz (S _ _ e)⟩
  | tup e => exact ⟨_, .tup (S _ _ e)⟩
  | dK e => exact ⟨_, .dK (S _ _ e)⟩
  | dT e => exact ⟨_, .dT (S _ _ e)⟩
def errs (ad : Ad) : List Addr := [ad.C_BadFloor, ad.C_BadKind, ad.C_BadCell, ad.C_BadCharge, ad.C_BadStops, ad.C_BadWay, ad.C_Empty, ad.C_NoCarrier, ad.C_NoTask, ad.C_Meets, ad.C_Taken, ad.C_Busy, ad.C_NoReserve, ad.C_Closed, ad.C_Jammed]
def words : List Str := ["floor", "kind", "cell", "charge", "stops", "way", "empty", "carrier", "task", "meets", "taken", "busy", "reserve", "closed", "jammed"]
structure Says (ad : Ad) (K : PySem.W.Frag) (C : Addr) (n : Nat) : Prop where
  k : ErrK K C
  is : ∀ i D, (errs ad)[i]? = some D → PySem.W.kitOne K (.ref C) (.ref D) = some (decide (i = n))
  fe : PySem.W.kitOne K (.ref C) (.ref ad.C_FloorError) = some true
  ve : PySem.W.kitOne K (.ref C) (.type "ValueError") = some true
theorem says_BadFloor {K : PySem.W.Frag} {mg : Str → Option Value} {ad : Ad} (T : Txt K mg ad) : Says ad K ad.C_BadFloor 0 where
  k := ⟨⟨T.ga_BadFloor, T.gn_BadFloor, T.bx_BadFloor⟩, T.cl_BadFloor, T.ca_BadFloor, T.cgx, T.ctx, T.cm_BadFloor⟩
  is := fun i D h => by
    match i, h with
    | 0, h => cases h; exact T.is_BadFloor_BadFloor
    | 1, h => cases h; exact T.is_BadFloor_BadKind
    | 2, h => cases h; exact T.is_BadFloor_BadCell
    | 3, h => cases h; exact T.is_BadFloor_BadCharge
    | 4, h => cases h; exact T.is_BadFloor_BadStops
    | 5, h => cases h; exact T.is_BadFloor_BadWay
    | 6, h => cases h; exact T.is_BadFloor_Empty
    | 7, h => cases h; exact T.is_BadFloor_NoCarrier
    | 8, h => cases h; exact T.is_BadFloor_NoTask
    | 9, h => cases h; exact T.is_BadFloor_Meets
    | 10, h => cases h; exact T.is_BadFloor_Taken
    | 11, h => cases h; exact T.is_BadFloor_Busy
    | 12, h => cases h; exact T.is_BadFloor_NoReserve
    | 13, h => cases h; exact T.is_BadFloor_Closed
    | 14, h => cases h; exact T.is_BadFloor_Jammed
    | (i + 15), h => simp [errs] at h
  fe := T.is_BadFloor_FloorError
  ve := T.is_BadFloor_ValueError
def PairsAt (n m : Nat) (H : Hp) (l : Addr) : Prop := ∃ ts : List Addr, ts.length = m ∧ H l = some (.lst (ts.map V.ref)) ∧ ∀ i t, ts[i]? = some t → H t = some (.tup [.str (words.getD i ""), .bl (decide (i = n))])
theorem PairsAt.same {n m : Nat} {H H' : Hp} {l : Addr} (s : Same H H') (h : PairsAt n m H l) : PairsAt n m H' l := by
  obtain ⟨ts, h1, h2, h3⟩ := h
  exact ⟨ts, h1, s _ _ h2, fun i t e => s _ _ (h3 i t e)⟩
theorem PairsAt.add {n m : Nat} {H H' : Hp} {d : Addr} {ts us : List Addr} (hl : ts.length = m) (h3 : ∀ i t, ts[i]? = some t → H t = some (.tup [.str (words.getD i ""), .bl (decide (i = n))])) (S : Same H H')
    (hu : ∀ i t, us[i]? = some t → H' t = some (.tup [.str (words.getD (m + i) ""), .bl (decide (m + i = n))])) (hd : H' d = some (.lst (ts.map V.ref ++ us.map V.ref))) : PairsAt n (m + us.length) H' d := by
  refine ⟨ts ++ us, by simp [hl], by rw [hd, List.map_append], fun i t e => ?_⟩
  by_cases q : i < ts.length
  · rw [List.getElem?_append_left q] at e
    exact S _ _ (h3 i t e)
  · rw [List.getElem?_append_right (by omega)] at e
    have := hu _ _ e
    rw [show m + (i - ts.length) = i by omega] at this
    exact this
theorem filt_none {p : Addr → Bool} {f : Addr → V} {n : Nat} : ∀ (ts : List Addr) (k : Nat), (∀ i t, ts[i]? = some t → p t = decide (k + i = n)) → n < k → (ts.filter p).map f = []
  | [], _, _, _ => rfl
  | t :: ts, k, h, hk => by
    have e := h 0 t rfl
    rw [decide_eq_false (by omega)] at e
    rw [List.filter_cons, if_neg (by rw [e]; decide)]
    exact filt_none ts (k + 1) (fun i t' q => by rw [h (i + 1) t' q, show k + (i + 1) = k + 1 + i by omega]) (by omega)
theorem filt_one {p : Addr → Bool} {f : Addr → V} {g : Nat → V} {n : Nat} : ∀ (ts : List Addr) (k : Nat), (∀ i t, ts[i]? = some t → p t = decide (k + i = n) ∧ f t = g (k + i)) → k ≤ n → n < k + ts.length → (ts.filter p).map f = [g n]
  | [], k, _, h1, h2 => by simp at h2; omega
  | t :: ts, k, h, h1, h2 => by
    obtain ⟨e1, e2⟩ := h 0 t rfl
    by_cases q : k = n
    · rw [decide_eq_true (by omega)] at e1
      rw [List.filter_cons, if_pos e1, List.map_cons, filt_none ts (k + 1) (fun i t' z => by rw [(h (i + 1) t' z).1, show k + (i + 1) = k + 1 + i by omega]) (by omega), e2]
      simp [q]
    · rw [decide_eq_false (by omega)] at e1
      rw [List.filter_cons, if_neg (by rw [e1]; decide)]
      exact filt_one ts (k + 1) (fun i t' z => by
        obtain ⟨a, b⟩ := h (i + 1) t' z
        rw [a, b, show k + 1 + i = k + (i + 1) by omega]
        exact ⟨rfl, rfl⟩) (by omega) (by simp at h2; omega)
def fst (H : Hp) (t : Addr) : V := match H t with
  | some (.tup [x, _]) => x
  | _ => .non
def snd (H : Hp) (t : Addr) : V := match H t with
  | some (.tup [_, y]) => y
  | _ => .non
def tru : V → Bool
  | .bl b => b
  | _ => false
def spWord (ad : Ad) (K : PySem.W.Frag) (ea C : Addr) (dx : Option Addr) : Sp := fun vs H Q _ => ∃ n, vs = [.ref ea] ∧ dx = none ∧ Says ad K C n ∧ n = 0 ∧ ∀ H', Same H H' → Q (.str (words.getD n "")) H'
theorem kit_str {K : PySem.W.Frag} {H : Hp} {x : V} {n : String} (h : TyOf K H x (.type n)) (hs : ∀ z, x ≠ .str z) : PySem.W.kitOne K (.type n) (.type "str") = some false := by
  cases h <;> first | rfl | exact absurd rfl (hs _)
theorem kit_list {K : PySem.W.Frag} {H : Hp} {x : V} {n : String} (h : TyOf K H x (.type n)) (hn : n ≠ "list") : PySem.W.kitOne K (.type n) (.type "list") = some false := by
  cases h <;> first | rfl | exact absurd rfl hn
def StrL (z : Str) : Prop := z.length ≤ 1000 ∧ ∀ c ∈ z.cps.toList, c < 1114112
def El (K : PySem.W.Frag) (H : Hp) (x : V) : Prop := ∃ d, Den K H x d ∧ d.canLay0 = true ∧ d.depth ≤ 1 ∧ ((∃ z, x = .str z ∧ StrL z) ∨ (TyB K H x ∧ ∀ z, x ≠ .str z))
theorem el_str {K : PySem.W.Frag} {H : Hp} {z : Str} (h : StrL z) : El K H (.str z) := ⟨_, .str z, by simp only [PyData.canLay0]; exact strOk_of h.2, by simp [PyData.depth], .inl ⟨z, rfl, h⟩⟩
theorem els_den {K : PySem.W.Frag} {H : Hp} : ∀ {xs : List V}, (∀ x ∈ xs, El K H x) → ∃ ds, DenAll K H xs ds ∧ PyData.canLayAll0 ds = true ∧ PyData.depthAll ds ≤ 1
  | [], _ => ⟨[], .nil, rfl, by simp [PyData.depthAll]⟩
  | x :: xs, h => by
    obtain ⟨d, h1, h2, h3, _⟩ := h x List.mem_cons_self
    obtain ⟨ds, g1, g2, g3⟩ := els_den fun y hy => h y (List.mem_cons_of_mem _ hy)
    exact ⟨d :: ds, .cons h1 g1, by simp [PyData.canLayAll0, h2, g2], by simp only [PyData.depthAll]; omega⟩
structure ThL (K : PySem.W.Frag) (H : Hp) (a : Addr) (xs : List V) : Prop where
  at_ : H a = some (.lst xs)
  len : xs.length ≤ 100
  els : ∀ x ∈ xs, El K H x
theorem ThL.den {K : PySem.W.Frag} {H : Hp} {a : Addr} {xs : List V} (h : ThL K H a xs) : ∃ ds, DenAll K H xs ds ∧ SeqAt.shaped (.list ds) = true := by
  obtain ⟨ds, g1, g2, g3⟩ := els_den h.els
  refine ⟨ds, g1, ?_⟩
  have e1 : PyData.canLay0 (.list ds) = true := by simp only [PyData.canLay0]; exact g2
  have e2 : PyData.depth (.list ds) ≤ 64 := by simp only [PyData.depth]; omega
  unfold SeqAt.shaped
  rw [e1, decide_eq_true e2]
  rfl
mutual
theorem den_same {K : PySem.W.Frag} {H H' : Hp} (s : Same H H') : ∀ {x : V} {d : PyData}, Den K H x d → Den K H' x d
  | _, _, .non => .non
  | _, _, .bl b => .bl b
  | _, _, .int i => .int i
  | _, _, .str x => .str x
  | _, _, .lst h t => .lst (s.seq h) (denAll_same s t)
  | _, _, .tup h t => .tup (s.seqT h) (denAll_same s t)
theorem denAll_same {K : PySem.W.Frag} {H H' : Hp} (s : Same H H') : ∀ {xs : List V} {ds : List PyData}, DenAll K H xs ds → DenAll K H' xs ds
  | _, _, .nil => .nil
  | _, _, .cons h t => .cons (den_same s h) (denAll_same s t)
end
theorem El.same {K : PySem.W.Frag} {H H' : Hp} {x : V} (s : Same H H') : El K H x → El K H' x
  | ⟨d, h1, h2, h3, h4⟩ => ⟨d, den_same s h1, h2, h3, h4.imp id fun h => ⟨tyB_same s h.1, h.2⟩⟩
theorem ThL.same {K : PySem.W.Frag} {H H' : Hp} {a : Addr} {xs : List V} (s : Same H H') (h : ThL K H a xs) : ThL K H' a xs := ⟨s _ _ h.at_, h.len, fun x hx => (h.els x hx).same s⟩
def NoL (K : PySem.W.Frag) (H : Hp) (v : V) : Prop := ∃ n, TyOf K H v (.type n) ∧ n ≠ "list" ∧ ((∃ d, Den K H v d ∧ SeqAt.shaped d = true) ∨ ∃ a, v = .ref a ∧ H a = some (.dK [(.inl 0, .str "..")]))
def chOk (c : Nat) : Bool := decide (c ∈ (Str.ofString ".#+~|").cps.toList)
def rowOk (n : Nat) : V → Bool
  | .str z => decide (z.length = n) && z.cps.toList.all chOk
  | _ => false
def anyCell : V → Bool
  | .str z => z.cps.toList.any fun c => !decide (c = 35)
  | _ => false
def okL : List V → Bool
  | .str z :: r => decide ((V.str z :: r).length ≤ 10) && decide (1 ≤ z.length) && decide (z.length ≤ 10) && (V.str z :: r).all (rowOk z.length) && (V.str z :: r).any anyCell
  | _ => false
def spRowR (ad : Ad) (K : PySem.W.Frag) : Sp := fun vs H Q E => ∃ (x : V) (n : Nat), vs = [x, .int (n : Int)] ∧ El K H x ∧ ∀ H', Same H H' → (if rowOk n x = true then Q .non H' else E (.ref ad.C_BadFloor) none H')
def spCheckR (ad : Ad) (K : PySem.W.Frag) : Sp := fun vs H Q E => ∃ v, vs = [v] ∧ ((∃ a xs, v = .ref a ∧ ThL K H a xs ∧ ∀ H', Same H H' → (if okL xs = true then Q .non H' else E (.ref ad.C_BadFloor) none H')) ∨ (NoL K H v ∧ ∀ H', Same H H' → E (.ref ad.C_BadFloor) none H'))
def spInitR (ad : Ad) (K : PySem.W.Frag) : Sp := fun vs H Q E => ∃ (p dx : Addr) (v : V), vs = [.ref p, v] ∧ H p = some (.ins ad.C_Floor dx []) ∧ ((∃ a xs, v = .ref a ∧ ThL K H a xs ∧ (okL xs = true → ∀ H' dx' l2 fs, H l2 = none → H' p = some (.ins ad.C_Floor dx' fs) → fs.lookup ("lines" : Str) = some (.ref l2) → H' l2 = some (.lst xs) → (∀ b o, H b = some o → b ≠ p → H' b = some o) → Q .non H') ∧
  (okL xs = false → ∀ H', Same H H' → E (.ref ad.C_BadFloor) none H')) ∨ (NoL K H v ∧ ∀ H', Same H H' → E (.ref ad.C_BadFloor) none H'))
def spSaid (K : PySem.W.Frag) : Sp := fun vs H Q _ => ∃ v, vs = [v] ∧ ((∃ a xs, v = .ref a ∧ ThL K H a xs ∧ ∀ H', Same H H' → Q (.str (if okL xs = true then "" else "floor")) H') ∨ (NoL K H v ∧ ∀ H', Same H H' → Q (.str "floor") H'))
def spGood (K : PySem.W.Frag) : Sp := fun vs H Q _ => ∃ v, vs = [v] ∧ ((∃ a xs, v = .ref a ∧ ThL K H a xs ∧ ∀ H', Same H H' → Q (.bl (okL xs)) H') ∨ (NoL K H v ∧ ∀ H', Same H H' → Q (.bl false) H'))
def spSignOf : Sp := fun vs H Q _ => ∃ c, vs = [.int c] ∧ 0 ≤ c ∧ ∀ z, z < 128 → Q (chr1 z) H
def spBent (K : PySem.W.Frag) : Sp := fun vs H Q _ => ∃ (l : Addr) (w h : Nat) (sg : List Nat) (c : Int), vs = [.ref l, .int c] ∧ LinesAt H l w h sg ∧ Good w h sg ∧ 0 ≤ c ∧ ∀ v H', Same H H' → ((∃ a xs, v = .ref a ∧ ThL K H' a xs) ∨ NoL K H' v) → Q v H'
def spLaw (K : PySem.W.Frag) : Sp := fun vs H Q _ => ∃ (a : Addr) (ns : List Int), vs = [.ref a] ∧ SqL K H a (ns.map V.int) ∧ ns.length ≤ 63 ∧ ∀ H', Q (.bl true) H'
theorem rows_strs {n : Nat} : ∀ {xs : List V}, (∀ x ∈ xs, rowOk n x = true) → ∃ zs : List Str, xs = zs.map V.str ∧ ∀ z ∈ zs, z.length = n ∧ z.cps.toList.all chOk = true
  | [], _ => ⟨[], rfl, by simp⟩
  | x :: xs, h => by
    obtain ⟨zs, e, hz⟩ := rows_strs fun y hy => h y (List.mem_cons_of_mem _ hy)
    have hx := h x List.mem_cons_self
    cases x with
    | str z =>
      simp only [rowOk, Bool.and_eq_true, decide_eq_true_eq] at hx
      refine ⟨z :: zs, by rw [e]; rfl, fun y hy => ?_⟩
      rcases List.mem_cons.mp hy with rfl | hy
      · exact hx
      · exact hz y hy
    | _ => cases hx
theorem sum_const {n : Nat} : ∀ {zs : List Str}, (∀ z ∈ zs, z.length = n) → (zs.map (·.length)).sum = zs.length * n
  | [], _ => by simp
  | z :: zs, h => by
    have := sum_const (zs := zs) fun y hy => h y (List.mem_cons_of_mem _ hy)
    rw [List.map_cons, List.sum_cons, this, h z List.mem_cons_self, List.length_cons, Nat.succ_mul]
    omega
theorem any_cell (zs : List Str) : (zs.map V.str).any anyCell = ((zs.map (·.cps.toList)).flatten).any fun c => !decide (c = 35) := by
  induction zs with
  | nil => rfl
  | cons z zs ih => rw [List.map_cons, List.any_cons, ih, List.map_cons, List.flatten_cons, List.any_append]; rfl
theorem ok_cons {z : Str} {r : List V} (h1 : (V.str z :: r).length ≤ 10) (h2 : 1 ≤ z.length) (h3 : z.length ≤ 10) (h4 : ∀ x ∈ V.str z :: r, rowOk z.length x = true) : okL (.str z :: r) = (V.str z :: r).any anyCell := by
  simp only [okL]
  rw [decide_eq_true h1, decide_eq_true h2, decide_eq_true h3, List.all_eq_true.mpr h4]
  rfl
theorem ok_not {z : Str} {r : List V} (h : ¬ ((V.str z :: r).length ≤ 10 ∧ 1 ≤ z.length ∧ z.length ≤ 10 ∧ ∀ x ∈ V.str z :: r, rowOk z.length x = true)) : okL (.str z :: r) = false := by
  cases e : okL (.str z :: r) with
  | false => rfl
  | true =>
    simp only [okL, Bool.and_eq_true, decide_eq_true_eq] at e
    exact absurd ⟨e.1.1.1.1, e.1.1.1.2, e.1.1.2, List.all_eq_true.mp e.1.2⟩ h
theorem ok_first {x : V} {r : List V} (h : ∀ z, x ≠ .str z) : okL (x :: r) = false := by
  cases x <;> first | rfl | exact absurd rfl (h _)
theorem amg_not {i : Int} (h : ¬ (1 ≤ i ∧ i ≤ 10)) : amg (.int i) 1 10 = false := by
  simp only [amg]
  by_cases a : 1 ≤ i
  · rw [decide_eq_true a, decide_eq_false (fun z => h ⟨a, z⟩)]; rfl
  · rw [decide_eq_false a]; rfl
theorem amg_yes {i : Int} (h : 1 ≤ i ∧ i ≤ 10) : amg (.int i) 1 10 = true := by
  simp only [amg]
  rw [decide_eq_true h.1, decide_eq_true h.2]
  rfl
theorem tyOf_same {K : PySem.W.Frag} {H H' : Hp} {v : V} {n : String} (S : Same H H') (h : TyOf K H v (.type n)) : TyOf K H' v (.type n) := by
  cases h with
  | non => exact .non
  | bl x => exact .bl x
  | int i => exact .int i
  | str x => exact .str x
  | flt x => exact .flt x
  | lst e => exact .lst (S _ _ e)
  | frz e => exact .frz (S _ _ e)
  | tup e => exact .tup (S _ _ e)
  | dK e => exact .dK (S _ _ e)
  | dT e => exact .dT (S _ _ e)
theorem NoL.same {K : PySem.W.Frag} {H H' : Hp} {v : V} (s : Same H H') : NoL K H v → NoL K H' v
  | ⟨n, ty, nn, h⟩ => ⟨n, tyOf_same s ty, nn, h.imp (fun ⟨d, h1, h2⟩ => ⟨d, den_same s h1, h2⟩) fun ⟨a, e, h1⟩ => ⟨a, e, s _ _ h1⟩⟩
theorem ok_inv {xs : List V} (h : okL xs = true) : ∃ z r, xs = V.str z :: r ∧ xs.length ≤ 10 ∧ 1 ≤ z.length ∧ z.length ≤ 10 ∧ (∀ x ∈ xs, rowOk z.length x = true) ∧ xs.any anyCell = true := by
  cases xs with
  | nil => simp [okL] at h
  | cons x r =>
    cases x with
    | str z =>
      simp only [okL, Bool.and_eq_true, decide_eq_true_eq] at h
      exact ⟨z, r, rfl, h.1.1.1.1, h.1.1.1.2, h.1.1.2, List.all_eq_true.mp h.1.2, h.2⟩
    | _ => cases h
def noSgV : V → Bool
  | .str z => !chOk (z.cps.toList.headD 0)
  | _ => false
def noHash (z : Str) : Bool := !decide (z = Txt.mul (Str.ofString "#") (z.length : Int))
def noHashV : V → Bool
  | .str z => noHash z
  | _ => false
theorem noHash_any (z : Str) : noHash z = anyCell (.str z) := by
  have e : (Txt.mul (Str.ofString "#") ((z.length : Nat) : Int)).cps.toList = List.replicate z.length 35 := by
    rw [mul_list]
    have e : (Str.ofString "#").cps.toList = [35] := by decide +kernel
    rw [e]
    generalize z.length = n
    have : ∀ n : Nat, (List.replicate n [35]).flatten = List.replicate n 35 := by
      intro n
      induction n with
      | zero => rfl
      | succ n ih => rw [List.replicate_succ, List.flatten_cons, ih, List.replicate_succ]; rfl
    first
      | exact this n
      | (rw [Int.toNat_natCast]; exact this n)
  have iff : (z = Txt.mul (Str.ofString "#") (z.length : Int)) ↔ ∀ c ∈ z.cps.toList, c = 35 := by
    constructor
    · intro h c hc
      rw [h, e] at hc
      exact (List.mem_replicate.mp hc).2
    · intro h
      refine str_ext ?_
      rw [e]
      exact List.eq_replicate_iff.mpr ⟨str_len_list z, h⟩
  unfold noHash
  simp only [anyCell]
  cases a : z.cps.toList.any fun c => !decide (c = 35) with
  | true =>
    rw [decide_eq_false (fun h => by
      obtain ⟨c, hc, hn⟩ := List.any_eq_true.mp a
      rw [decide_eq_true (iff.mp h c hc)] at hn
      cases hn)]
    rfl
  | false =>
    rw [decide_eq_true (iff.mpr fun c hc => by
      have := List.any_eq_false.mp a c hc
      simpa using this)]
    rfl
theorem eqv_nil (ds : List PyData) : PyData.eqv (.list ds) (.list []) = ds.isEmpty := by
  cases ds <;> simp [PyData.eqv, PyData.eqvAll]
theorem lines_th {K : PySem.W.Frag} {H : Hp} {l : Addr} {w h : Nat} {sg : List Nat} (hL : LinesAt H l w h sg) (g : Good w h sg) : ThL K H l ((Fl.linesOf w h sg).map V.str) ∧ okL ((Fl.linesOf w h sg).map V.str) = true := by
  have w0 := g.w0
  have w1 := g.w1
  have h0 := g.h0
  have h1 := g.h1
  refine ⟨⟨hL, by rw [List.length_map, lines_len]; omega, fun x hx => ?_⟩, ?_⟩
  · obtain ⟨z, hz, rfl⟩ := List.mem_map.mp hx
    obtain ⟨j, hj, rfl⟩ := List.mem_map.mp hz
    have := line_len g (List.mem_range.mp hj)
    exact el_str ⟨by omega, fun c hc => by rcases line_ok g c hc with q | q | q | q | q <;> omega⟩
  · have e0 := lines_get (w := w) (sg := sg) (show 0 < h by omega)
    obtain ⟨r, hr⟩ : ∃ r, Fl.linesOf w h sg = lineOf w sg 0 :: r := by
      cases hh : Fl.linesOf w h sg with
      | nil => rw [hh] at e0; cases e0
      | cons z r => rw [hh] at e0; cases e0; exact ⟨r, rfl⟩
    have len := lines_len w h sg
    have all : ∀ x ∈ (Fl.linesOf w h sg).map V.str, rowOk w x = true := fun x hx => by
      obtain ⟨z, hz, rfl⟩ := List.mem_map.mp hx
      obtain ⟨j, hj, rfl⟩ := List.mem_map.mp hz
      simp only [rowOk, Bool.and_eq_true, decide_eq_true_eq]
      exact ⟨line_len g (List.mem_range.mp hj), List.all_eq_true.mpr fun c hc => decide_eq_true (mem_sgn (line_ok g c hc))⟩
    have eL := line_len g (show 0 < h by omega)
    have any : ((Fl.linesOf w h sg).map V.str).any anyCell = true := by
      rw [any_cell]
      have : ((Fl.linesOf w h sg).map (·.cps.toList)).flatten = sg := by
        have := join_lines g
        have e := congrArg (fun z : Str => z.cps.toList) this
        simp only [join_flat, txt_list] at e
        exact e
      rw [this]
      obtain ⟨c, hc, hn⟩ := g.cell
      exact List.any_eq_true.mpr ⟨c, hc, by simp [hn]⟩
    rw [hr] at all any len ⊢
    rw [List.map_cons] at all any ⊢
    rw [ok_cons (by rw [List.length_cons, List.length_map]; rw [List.length_cons] at len; omega) (by omega) (by omega) (by rw [eL]; exact all)]
    exact any
theorem slice_mem {z : Str} {lo hi : Option Int} {c : Nat} (h : c ∈ (Txt.slice z lo hi).cps.toList) : c ∈ z.cps.toList := by
  unfold Txt.slice at h
  split at h
  · exact h
  · have h : c ∈ (List.filterMap (z.cps[·]?) (Builtin.Str.strSliceIndices lo hi 1 z.length)).toArray.toList := h
    rw [List.toList_toArray] at h
    obtain ⟨m, _, e⟩ := List.mem_filterMap.mp h
    exact Array.mem_toList_iff.mpr (Array.mem_of_getElem? e)
theorem strL_slice {z : Str} {lo hi : Option Int} (h : StrL z) : StrL (Txt.slice z lo hi) := ⟨Nat.le_trans (Txt.slice_le z lo hi) h.1, fun c hc => h.2 c (slice_mem hc)⟩
theorem strL_app {a b : Str} (ha : StrL a) (hb : StrL b) (hl : a.length + b.length ≤ 1000) : StrL (a ++ b) := by
  refine ⟨?_, fun c hc => ?_⟩
  · rw [← str_len_list, str_app_list, List.length_append, str_len_list, str_len_list]
    exact hl
  · rw [str_app_list] at hc
    rcases List.mem_append.mp hc with h | h
    · exact ha.2 c h
    · exact hb.2 c h
theorem app_len (a b : Str) : (a ++ b).length = a.length + b.length := by
  rw [← str_len_list, str_app_list, List.length_append, str_len_list, str_len_list]
theorem strL_mul {x : Str} {n : Nat} (hx : StrL x) (h : n * x.length ≤ 1000) : StrL (Txt.mul x (n : Int)) := by
  refine ⟨?_, fun c hc => ?_⟩
  · rw [← str_len_list, mul_list, len_rep, str_len_list]
    exact h
  · rw [mul_list] at hc
    obtain ⟨l, hl, h⟩ := List.mem_flatten.mp hc
    rw [(List.mem_replicate.mp hl).2] at h
    exact hx.2 c h
theorem mem_cut {xs : List V} {lo hi : Option Int} {y : V} (h : y ∈ cutV xs lo hi) : y ∈ xs := by
  unfold cutV at h
  exact List.mem_of_mem_drop (List.mem_of_mem_take h)
theorem strL_chr {c : Nat} (h : c < 128) : StrL ⟨#[c]⟩ := ⟨show 1 ≤ 1000 by decide, fun d hd => by
  have : d = c := by simpa using hd
  omega⟩
theorem el_ref {K : PySem.W.Frag} {H : Hp} {a : Addr} {zs : List Str} (hz : ∀ z ∈ zs, StrL z) (h : H a = some (.lst (zs.map V.str)) ∨ H a = some (.tup (zs.map V.str))) : El K H (.ref a) := by
  have hs := shaped_strs zs fun z h => strOk_of (hz z h).2
  have h1 := SeqAt.canLay_of_shaped hs
  have h2 : PyData.depth (.list (zs.map PyData.str)) ≤ 1 := by
    have : ∀ zs : List Str, PyData.depthAll (zs.map PyData.str) = 0 := fun zs => by
      induction zs with
      | nil => rfl
      | cons z zs ih => simp [PyData.depthAll, PyData.depth, ih]
    simp [PyData.depth, this]
  rcases h with h | h
  · exact ⟨_, .lst (SqL.of h) (denAll_strs _), h1, h2, .inr ⟨⟨_, .lst h⟩, fun z e => by cases e⟩⟩
  · exact ⟨_, .tup (SqT.of h) (denAll_strs _), by simp only [PyData.canLay0] at h1 ⊢; exact h1, by simp only [PyData.depth] at h2 ⊢; exact h2, .inr ⟨⟨_, .tup h⟩, fun z e => by cases e⟩⟩
def mulH : V → V
  | .str z => .str (Txt.mul (Str.ofString "#") (z.length : Int))
  | v => v
def cutT (s : Nat) : V → V
  | .str z => .str (Txt.slice z none (some (s : Int)) ++ Str.ofString "~")
  | v => v
seal PA PE PS PSs PI PG
section
variable {P : Program} {w : World} {K : PySem.W.Frag} {mg : Str → Option Value} {base : Heap} {ad : Ad}
theorem d_BadCell : (("BadCell" : Str) == ("__debug__" : Str)) = false := by decide +kernel
theorem d_BadCharge : (("BadCharge" : Str) == ("__debug__" : Str)) = false := by decide +kernel
theorem d_BadFloor : (("BadFloor" : Str) == ("__debug__" : Str)) = false := by decide +kernel
theorem d_BadKind : (("BadKind" : Str) == ("__debug__" : Str)) = false := by decide +kernel
theorem d_BadStops : (("BadStops" : Str) == ("__debug__" : Str)) = false := by decide +kernel
theorem d_BadWay : (("BadWay" : Str) == ("__debug__" : Str)) = false := by decide +kernel
theorem d_Busy : (("Busy" : Str) == ("__debug__" : Str)) = false := by decide +kernel
theorem d_Closed : (("Closed" : Str) == ("__debug__" : Str)) = false := by decide +kernel
theorem d_Empty : (("Empty" : Str) == ("__debug__" : Str)) = false := by decide +kernel
theorem d_Floor : (("Floor" : Str) == ("__debug__" : Str)) = false := by decide +kernel
theorem d_FloorError : (("FloorError" : Str) == ("__debug__" : Str)) = false := by decide +kernel
theorem d_Jammed : (("Jammed" : Str) == ("__debug__" : Str)) = false := by decide +kernel
theorem d_MOST_ROWS : (("MOST_ROWS" : Str) == ("__debug__" : Str)) = false := by decide +kernel
theorem d_MOST_SIGNS : (("MOST_SIGNS" : Str) == ("__debug__" : Str)) = false := by decide +kernel
theorem d_Meets : (("Meets" : Str) == ("__debug__" : Str)) = false := by decide +kernel
theorem d_NoCarrier : (("NoCarrier" : Str) == ("__debug__" : Str)) = false := by decide +kernel
theorem d_NoReserve : (("NoReserve" : Str) == ("__debug__" : Str)) = false := by decide +kernel
theorem d_NoTask : (("NoTask" : Str) == ("__debug__" : Str)) = false := by decide +kernel
theorem d_SIGNS : (("SIGNS" : Str) == ("__debug__" : Str)) = false := by decide +kernel
theorem d_Taken : (("Taken" : Str) == ("__debug__" : Str)) = false := by decide +kernel
theorem d_ValueError : (("ValueError" : Str) == ("__debug__" : Str)) = false := by decide +kernel
theorem n_ValueError : ("ValueError" : Str) ≠ "__name__" := by decide +kernel
theorem d_WALL : (("WALL" : Str) == ("__debug__" : Str)) = false := by decide +kernel
theorem d__law_at : (("_law_at" : Str) == ("__debug__" : Str)) = false := by decide +kernel
theorem d__law_at_here : (("_law_at_here" : Str) == ("__debug__" : Str)) = false := by decide +kernel
theorem e__law_at_here : (("_law_at_here" : Str) == ("__classdict__" : Str)) = false := by decide +kernel
theorem d__law_bent : (("_law_bent" : Str) == ("__debug__" : Str)) = false := by decide +kernel
theorem d__law_cell : (("_law_cell" : Str) == ("__debug__" : Str)) = false := by decide +kernel
theorem e__law_cell : (("_law_cell" : Str) == ("__classdict__" : Str)) = false := by decide +kernel
theorem d__law_error : (("_law_error" : Str) == ("__debug__" : Str)) = false := by decide +kernel
theorem e__law_error : (("_law_error" : Str) == ("__classdict__" : Str)) = false := by decide +kernel
theorem d__law_first : (("_law_first" : Str) == ("__debug__" : Str)) = false := by decide +kernel
theorem e__law_first : (("_law_first" : Str) == ("__classdict__" : Str)) = false := by decide +kernel
theorem d__law_floor : (("_law_floor" : Str) == ("__debug__" : Str)) = false := by decide +kernel
theorem e__law_floor : (("_law_floor" : Str) == ("__classdict__" : Str)) = false := by decide +kernel
theorem d__law_found : (("_law_found" : Str) == ("__debug__" : Str)) = false := by decide +kernel
theorem e__law_found : (("_law_found" : Str) == ("__classdict__" : Str)) = false := by decide +kernel
theorem d__law_good : (("_law_good" : Str) == ("__debug__" : Str)) = false := by decide +kernel
theorem d__law_high : (("_law_high" : Str) == ("__debug__" : Str)) = false := by decide +kernel
theorem e__law_high : (("_law_high" : Str) == ("__classdict__" : Str)) = false := by decide +kernel
theorem d__law_j : (("_law_j" : Str) == ("__debug__" : Str)) = false := by decide +kernel
theorem e__law_j : (("_law_j" : Str) == ("__classdict__" : Str)) = false := by decide +kernel
theorem d__law_k : (("_law_k" : Str) == ("__debug__" : Str)) = false := by decide +kernel
theorem e__law_k : (("_law_k" : Str) == ("__classdict__" : Str)) = false := by decide +kernel
theorem d__law_kept : (("_law_kept" : Str) == ("__debug__" : Str)) = false := by decide +kernel
theorem e__law_kept : (("_law_kept" : Str) == ("__classdict__" : Str)) = false := by decide +kernel
theorem d__law_line : (("_law_line" : Str) == ("__debug__" : Str)) = false := by decide +kernel
theorem e__law_line : (("_law_line" : Str) == ("__classdict__" : Str)) = false := by decide +kernel
theorem d__law_lines : (("_law_lines" : Str) == ("__debug__" : Str)) = false := by decide +kernel
theorem d__law_lines_here : (("_law_lines_here" : Str) == ("__debug__" : Str)) = false := by decide +kernel
theorem e__law_lines_here : (("_law_lines_here" : Str) == ("__classdict__" : Str)) = false := by decide +kernel
theorem d__law_mixed : (("_law_mixed" : Str) == ("__debug__" : Str)) = false := by decide +kernel
theorem d__law_most : (("_law_most" : Str) == ("__debug__" : Str)) = false := by decide +kernel
theorem e__law_most : (("_law_most" : Str) == ("__classdict__" : Str)) = false := by decide +kernel
theorem d__law_odd : (("_law_odd" : Str) == ("__debug__" : Str)) = false := by decide +kernel
theorem e__law_odd : (("_law_odd" : Str) == ("__classdict__" : Str)) = false := by decide +kernel
theorem d__law_other : (("_law_other" : Str) == ("__debug__" : Str)) = false := by decide +kernel
theorem e__law_other : (("_law_other" : Str) == ("__classdict__" : Str)) = false := by decide +kernel
theorem d__law_said : (("_law_said" : Str) == ("__debug__" : Str)) = false := by decide +kernel
theorem d__law_script : (("_law_script" : Str) == ("__debug__" : Str)) = false := by decide +kernel
theorem e__law_script : (("_law_script" : Str) == ("__classdict__" : Str)) = false := by decide +kernel
theorem d__law_sign : (("_law_sign" : Str) == ("__debug__" : Str)) = false := by decide +kernel
theorem e__law_sign : (("_law_sign" : Str) == ("__classdict__" : Str)) = false := by decide +kernel
theorem d__law_sign_of : (("_law_sign_of" : Str) == ("__debug__" : Str)) = false := by decide +kernel
theorem d__law_signs : (("_law_signs" : Str) == ("__debug__" : Str)) = false := by decide +kernel
theorem e__law_signs : (("_law_signs" : Str) == ("__classdict__" : Str)) = false := by decide +kernel
theorem d__law_some : (("_law_some" : Str) == ("__debug__" : Str)) = false := by decide +kernel
theorem e__law_some : (("_law_some" : Str) == ("__classdict__" : Str)) = false := by decide +kernel
theorem d__law_spot : (("_law_spot" : Str) == ("__debug__" : Str)) = false := by decide +kernel
theorem e__law_spot : (("_law_spot" : Str) == ("__classdict__" : Str)) = false := by decide +kernel
theorem d__law_text : (("_law_text" : Str) == ("__debug__" : Str)) = false := by decide +kernel
theorem e__law_text : (("_law_text" : Str) == ("__classdict__" : Str)) = false := by decide +kernel
theorem d__law_thing : (("_law_thing" : Str) == ("__debug__" : Str)) = false := by decide +kernel
theorem e__law_thing : (("_law_thing" : Str) == ("__classdict__" : Str)) = false := by decide +kernel
theorem d__law_way : (("_law_way" : Str) == ("__debug__" : Str)) = false := by decide +kernel
theorem e__law_way : (("_law_way" : Str) == ("__classdict__" : Str)) = false := by decide +kernel
theorem d__law_wide : (("_law_wide" : Str) == ("__debug__" : Str)) = false := by decide +kernel
theorem e__law_wide : (("_law_wide" : Str) == ("__classdict__" : Str)) = false := by decide +kernel
theorem d__law_word : (("_law_word" : Str) == ("__debug__" : Str)) = false := by decide +kernel
theorem d_all : (("all" : Str) == ("__debug__" : Str)) = false := by decide +kernel
theorem n_all : ("all" : Str) ≠ "__name__" := by decide +kernel
theorem d_bool : (("bool" : Str) == ("__debug__" : Str)) = false := by decide +kernel
theorem n_bool : ("bool" : Str) ≠ "__name__" := by decide +kernel
theorem d_check_floor : (("check_floor" : Str) == ("__debug__" : Str)) = false := by decide +kernel
theorem d_check_row : (("check_row" : Str) == ("__debug__" : Str)) = false := by decide +kernel
theorem d_int : (("int" : Str) == ("__debug__" : Str)) = false := by decide +kernel
theorem n_int : ("int" : Str) ≠ "__name__" := by decide +kernel
theorem d_is_among : (("is_among" : Str) == ("__debug__" : Str)) = false := by decide +kernel
theorem d_is_whole : (("is_whole" : Str) == ("__debug__" : Str)) = false := by decide +kernel
theorem d_isinstance : (("isinstance" : Str) == ("__debug__" : Str)) = false := by decide +kernel
theorem n_isinstance : ("isinstance" : Str) ≠ "__name__" := by decide +kernel
theorem d_least : (("least" : Str) == ("__debug__" : Str)) = false := by decide +kernel
theorem e_least : (("least" : Str) == ("__classdict__" : Str)) = false := by decide +kernel
theorem d_len : (("len" : Str) == ("__debug__" : Str)) = false := by decide +kernel
theorem n_len : ("len" : Str) ≠ "__name__" := by decide +kernel
theorem d_line : (("line" : Str) == ("__debug__" : Str)) = false := by decide +kernel
theorem e_line : (("line" : Str) == ("__classdict__" : Str)) = false := by decide +kernel
theorem d_lines : (("lines" : Str) == ("__debug__" : Str)) = false := by decide +kernel
theorem e_lines : (("lines" : Str) == ("__classdict__" : Str)) = false := by decide +kernel
theorem d_list : (("list" : Str) == ("__debug__" : Str)) = false := by decide +kernel
theorem n_list : ("list" : Str) ≠ "__name__" := by decide +kernel
theorem d_most : (("most" : Str) == ("__debug__" : Str)) = false := by decide +kernel
theorem e_most : (("most" : Str) == ("__classdict__" : Str)) = false := by decide +kernel
theorem d_self : (("self" : Str) == ("__debug__" : Str)) = false := by decide +kernel
theorem e_self : (("self" : Str) == ("__classdict__" : Str)) = false := by decide +kernel
theorem d_str : (("str" : Str) == ("__debug__" : Str)) = false := by decide +kernel
theorem n_str : ("str" : Str) ≠ "__name__" := by decide +kernel
theorem d_thing : (("thing" : Str) == ("__debug__" : Str)) = false := by decide +kernel
theorem e_thing : (("thing" : Str) == ("__classdict__" : Str)) = false := by decide +kernel
theorem d_tuple : (("tuple" : Str) == ("__debug__" : Str)) = false := by decide +kernel
theorem n_tuple : ("tuple" : Str) ≠ "__name__" := by decide +kernel
theorem d_wide : (("wide" : Str) == ("__debug__" : Str)) = false := by decide +kernel
theorem e_wide : (("wide" : Str) == ("__classdict__" : Str)) = false := by decide +kernel
theorem l_is_whole_thing : (defScope s_is_whole).names.lookup ("thing" : Str) = some .local := by decide +kernel
theorem v_is_whole_thing : Vis (defScope s_is_whole) "thing" := Or.inl l_is_whole_thing
theorem l_is_among_thing : (defScope s_is_among).names.lookup ("thing" : Str) = some .local := by decide +kernel
theorem v_is_among_thing : Vis (defScope s_is_among) "thing" := Or.inl l_is_among_thing
theorem l_is_among_least : (defScope s_is_among).names.lookup ("least" : Str) = some .local := by decide +kernel
theorem v_is_among_least : Vis (defScope s_is_among) "least" := Or.inl l_is_among_least
theorem l_is_among_most : (defScope s_is_among).names.lookup ("most" : Str) = some .local := by decide +kernel
theorem v_is_among_most : Vis (defScope s_is_among) "most" := Or.inl l_is_among_most
theorem l_check_row_line : (defScope s_check_row).names.lookup ("line" : Str) = some .local := by decide +kernel
theorem v_check_row_line : Vis (defScope s_check_row) "line" := Or.inl l_check_row_line
theorem l_check_row_wide : (defScope s_check_row).names.lookup ("wide" : Str) = some .local := by decide +kernel
theorem v_check_row_wide : Vis (defScope s_check_row) "wide" := Or.inl l_check_row_wide
theorem l_check_floor_lines : (defScope s_check_floor).names.lookup ("lines" : Str) = some .local := by decide +kernel
theorem v_check_floor_lines : Vis (defScope s_check_floor) "lines" := Or.inl l_check_floor_lines
theorem l_check_floor_line : (defScope s_check_floor).names.lookup ("line" : Str) = some .local := by decide +kernel
theorem v_check_floor_line : Vis (defScope s_check_floor) "line" := Or.inl l_check_floor_line
theorem l_Floor_init_self : (defScope s_Floor_init).names.lookup ("self" : Str) = some .local := by decide +kernel
theorem v_Floor_init_self : Vis (defScope s_Floor_init) "self" := Or.inl l_Floor_init_self
theorem l_Floor_init_lines : (defScope s_Floor_init).names.lookup ("lines" : Str) = some .local := by decide +kernel
theorem v_Floor_init_lines : Vis (defScope s_Floor_init) "lines" := Or.inl l_Floor_init_lines
theorem l_Lat__law_script : (defScope s_Lat).names.lookup ("_law_script" : Str) = some .local := by decide +kernel
theorem v_Lat__law_script : Vis (defScope s_Lat) "_law_script" := Or.inl l_Lat__law_script
theorem l_Lat__law_k : (defScope s_Lat).names.lookup ("_law_k" : Str) = some .local := by decide +kernel
theorem v_Lat__law_k : Vis (defScope s_Lat) "_law_k" := Or.inl l_Lat__law_k
theorem l_Lat__law_cell : (defScope s_Lat).names.lookup ("_law_cell" : Str) = some .local := by decide +kernel
theorem v_Lat__law_cell : Vis (defScope s_Lat) "_law_cell" := Or.inl l_Lat__law_cell
theorem l_Lmixed__law_cell : (defScope s_Lmixed).names.lookup ("_law_cell" : Str) = some .local := by decide +kernel
theorem v_Lmixed__law_cell : Vis (defScope s_Lmixed) "_law_cell" := Or.inl l_Lmixed__law_cell
theorem l_Lmixed__law_k : (defScope s_Lmixed).names.lookup ("_law_k" : Str) = some .local := by decide +kernel
theorem v_Lmixed__law_k : Vis (defScope s_Lmixed) "_law_k" := Or.inl l_Lmixed__law_k
theorem l_Llines__law_script : (defScope s_Llines).names.lookup ("_law_script" : Str) = some .local := by decide +kernel
theorem v_Llines__law_script : Vis (defScope s_Llines) "_law_script" := Or.inl l_Llines__law_script
theorem l_Llines__law_k : (defScope s_Llines).names.lookup ("_law_k" : Str) = some .local := by decide +kernel
theorem v_Llines__law_k : Vis (defScope s_Llines) "_law_k" := Or.inl l_Llines__law_k
theorem l_Llines__law_most : (defScope s_Llines).names.lookup ("_law_most" : Str) = some .local := by decide +kernel
theorem v_Llines__law_most : Vis (defScope s_Llines) "_law_most" := Or.inl l_Llines__law_most
theorem l_Llines__law_first : (defScope s_Llines).names.lookup ("_law_first" : Str) = some .local := by decide +kernel
theorem v_Llines__law_first : Vis (defScope s_Llines) "_law_first" := Or.inl l_Llines__law_first
theorem l_Llines__law_wide : (defScope s_Llines).names.lookup ("_law_wide" : Str) = some .cell := by decide +kernel
theorem v_Llines__law_wide : Vis (defScope s_Llines) "_law_wide" := Or.inr (Or.inl l_Llines__law_wide)
theorem l_Llines__law_high : (defScope s_Llines).names.lookup ("_law_high" : Str) = some .local := by decide +kernel
theorem v_Llines__law_high : Vis (defScope s_Llines) "_law_high" := Or.inl l_Llines__law_high
theorem l_Llines__law_signs : (defScope s_Llines).names.lookup ("_law_signs" : Str) = some .local := by decide +kernel
theorem v_Llines__law_signs : Vis (defScope s_Llines) "_law_signs" := Or.inl l_Llines__law_signs
theorem l_Llines__law_text : (defScope s_Llines).names.lookup ("_law_text" : Str) = some .cell := by decide +kernel
theorem v_Llines__law_text : Vis (defScope s_Llines) "_law_text" := Or.inr (Or.inl l_Llines__law_text)
theorem l_Llines__law_j : (defScope s_Llines).names.lookup ("_law_j" : Str) = some .local := by decide +kernel
theorem v_Llines__law_j : Vis (defScope s_Llines) "_law_j" := Or.inl l_Llines__law_j
theorem l_Lword__law_error : (defScope s_Lword).names.lookup ("_law_error" : Str) = some .local := by decide +kernel
theorem v_Lword__law_error : Vis (defScope s_Lword) "_law_error" := Or.inl l_Lword__law_error
theorem l_Lword__law_some : (defScope s_Lword).names.lookup ("_law_some" : Str) = some .local := by decide +kernel
theorem v_Lword__law_some : Vis (defScope s_Lword) "_law_some" := Or.inl l_Lword__law_some
theorem l_Lword__law_found : (defScope s_Lword).names.lookup ("_law_found" : Str) = some .local := by decide +kernel
theorem v_Lword__law_found : Vis (defScope s_Lword) "_law_found" := Or.inl l_Lword__law_found
theorem l_Lsaid__law_lines_here : (defScope s_Lsaid).names.lookup ("_law_lines_here" : Str) = some .local := by decide +kernel
theorem v_Lsaid__law_lines_here : Vis (defScope s_Lsaid) "_law_lines_here" := Or.inl l_Lsaid__law_lines_here
theorem l_Lsaid__law_floor : (defScope s_Lsaid).names.lookup ("_law_floor" : Str) = some .local := by decide +kernel
theorem v_Lsaid__law_floor : Vis (defScope s_Lsaid) "_law_floor" := Or.inl l_Lsaid__law_floor
theorem l_Lsaid__law_error : (defScope s_Lsaid).names.lookup ("_law_error" : Str) = some .local := by decide +kernel
theorem v_Lsaid__law_error : Vis (defScope s_Lsaid) "_law_error" := Or.inl l_Lsaid__law_error
theorem l_Lgood__law_lines_here : (defScope s_Lgood).names.lookup ("_law_lines_here" : Str) = some .local := by decide +kernel
theorem v_Lgood__law_lines_here : Vis (defScope s_Lgood) "_law_lines_here" := Or.inl l_Lgood__law_lines_here
theorem l_Lgood__law_line : (defScope s_Lgood).names.lookup ("_law_line" : Str) = some .local := by decide +kernel
theorem v_Lgood__law_line : Vis (defScope s_Lgood) "_law_line" := Or.inl l_Lgood__law_line
theorem l_Lsign_of__law_cell : (defScope s_Lsign_of).names.lookup ("_law_cell" : Str) = some .local := by decide +kernel
theorem v_Lsign_of__law_cell : Vis (defScope s_Lsign_of) "_law_cell" := Or.inl l_Lsign_of__law_cell
theorem l_Lsign_of__law_some : (defScope s_Lsign_of).names.lookup ("_law_some" : Str) = some .local := by decide +kernel
theorem v_Lsign_of__law_some : Vis (defScope s_Lsign_of) "_law_some" := Or.inl l_Lsign_of__law_some
theorem l_Lbent__law_lines_here : (defScope s_Lbent).names.lookup ("_law_lines_here" : Str) = some .local := by decide +kernel
theorem v_Lbent__law_lines_here : Vis (defScope s_Lbent) "_law_lines_here" := Or.inl l_Lbent__law_lines_here
theorem l_Lbent__law_cell : (defScope s_Lbent).names.lookup ("_law_cell" : Str) = some .local := by decide +kernel
theorem v_Lbent__law_cell : Vis (defScope s_Lbent) "_law_cell" := Or.inl l_Lbent__law_cell
theorem l_Lbent__law_at_here : (defScope s_Lbent).names.lookup ("_law_at_here" : Str) = some .local := by decide +kernel
theorem v_Lbent__law_at_here : Vis (defScope s_Lbent) "_law_at_here" := Or.inl l_Lbent__law_at_here
theorem l_Lbent__law_line : (defScope s_Lbent).names.lookup ("_law_line" : Str) = some .local := by decide +kernel
theorem v_Lbent__law_line : Vis (defScope s_Lbent) "_law_line" := Or.inl l_Lbent__law_line
theorem l_Lbent__law_spot : (defScope s_Lbent).names.lookup ("_law_spot" : Str) = some .cell := by decide +kernel
theorem v_Lbent__law_spot : Vis (defScope s_Lbent) "_law_spot" := Or.inr (Or.inl l_Lbent__law_spot)
theorem l_Lbent__law_way : (defScope s_Lbent).names.lookup ("_law_way" : Str) = some .local := by decide +kernel
theorem v_Lbent__law_way : Vis (defScope s_Lbent) "_law_way" := Or.inl l_Lbent__law_way
theorem l_Lbent__law_sign : (defScope s_Lbent).names.lookup ("_law_sign" : Str) = some .local := by decide +kernel
theorem v_Lbent__law_sign : Vis (defScope s_Lbent) "_law_sign" := Or.inl l_Lbent__law_sign
theorem l_Lbent__law_other : (defScope s_Lbent).names.lookup ("_law_other" : Str) = some .local := by decide +kernel
theorem v_Lbent__law_other : Vis (defScope s_Lbent) "_law_other" := Or.inl l_Lbent__law_other
theorem l_Lbent__law_odd : (defScope s_Lbent).names.lookup ("_law_odd" : Str) = some .local := by decide +kernel
theorem v_Lbent__law_odd : Vis (defScope s_Lbent) "_law_odd" := Or.inl l_Lbent__law_odd
theorem l_law__law_script : (defScope s_law).names.lookup ("_law_script" : Str) = some .local := by decide +kernel
theorem v_law__law_script : Vis (defScope s_law) "_law_script" := Or.inl l_law__law_script
theorem l_law__law_lines_here : (defScope s_law).names.lookup ("_law_lines_here" : Str) = some .local := by decide +kernel
theorem v_law__law_lines_here : Vis (defScope s_law) "_law_lines_here" := Or.inl l_law__law_lines_here
theorem l_law__law_k : (defScope s_law).names.lookup ("_law_k" : Str) = some .local := by decide +kernel
theorem v_law__law_k : Vis (defScope s_law) "_law_k" := Or.inl l_law__law_k
theorem l_law__law_thing : (defScope s_law).names.lookup ("_law_thing" : Str) = some .local := by decide +kernel
theorem v_law__law_thing : Vis (defScope s_law) "_law_thing" := Or.inl l_law__law_thing
theorem l_law__law_kept : (defScope s_law).names.lookup ("_law_kept" : Str) = some .local := by decide +kernel
theorem v_law__law_kept : Vis (defScope s_law) "_law_kept" := Or.inl l_law__law_kept
theorem g_Floor_init_check_floor : (defScope s_Floor_init).names.lookup ("check_floor" : Str) = some .globalImplicit := by decide +kernel
theorem g_Floor_init_len : (defScope s_Floor_init).names.lookup ("len" : Str) = some .globalImplicit := by decide +kernel
theorem g_Floor_init_list : (defScope s_Floor_init).names.lookup ("list" : Str) = some .globalImplicit := by decide +kernel
theorem g_Lat_len : (defScope s_Lat).names.lookup ("len" : Str) = some .globalImplicit := by decide +kernel
theorem g_Lbent__law_sign_of : (defScope s_Lbent).names.lookup ("_law_sign_of" : Str) = some .globalImplicit := by decide +kernel
theorem g_Lbent_len : (defScope s_Lbent).names.lookup ("len" : Str) = some .globalImplicit := by decide +kernel
theorem g_Lbent_list : (defScope s_Lbent).names.lookup ("list" : Str) = some .globalImplicit := by decide +kernel
theorem g_Lbent_tuple : (defScope s_Lbent).names.lookup ("tuple" : Str) = some .globalImplicit := by decide +kernel
theorem g_Lgood_isinstance : (defScope s_Lgood).names.lookup ("isinstance" : Str) = some .globalImplicit := by decide +kernel
theorem g_Lgood_len : (defScope s_Lgood).names.lookup ("len" : Str) = some .globalImplicit := by decide +kernel
theorem g_Lgood_list : (defScope s_Lgood).names.lookup ("list" : Str) = some .globalImplicit := by decide +kernel
theorem g_Lgood_str : (defScope s_Lgood).names.lookup ("str" : Str) = some .globalImplicit := by decide +kernel
theorem g_Llines__law_at : (defScope s_Llines).names.lookup ("_law_at" : Str) = some .globalImplicit := by decide +kernel
theorem g_Llines__law_mixed : (defScope s_Llines).names.lookup ("_law_mixed" : Str) = some .globalImplicit := by decide +kernel
theorem g_Llines_len : (defScope s_Llines).names.lookup ("len" : Str) = some .globalImplicit := by decide +kernel
theorem g_Llines_range : (defScope s_Llines).names.lookup ("range" : Str) = some .globalImplicit := by decide +kernel
theorem g_Lsaid_Floor : (defScope s_Lsaid).names.lookup ("Floor" : Str) = some .globalImplicit := by decide +kernel
theorem g_Lsaid_FloorError : (defScope s_Lsaid).names.lookup ("FloorError" : Str) = some .globalImplicit := by decide +kernel
theorem g_Lsaid__law_word : (defScope s_Lsaid).names.lookup ("_law_word" : Str) = some .globalImplicit := by decide +kernel
theorem g_Lsaid_int : (defScope s_Lsaid).names.lookup ("int" : Str) = some .globalImplicit := by decide +kernel
theorem g_Lsign_of_len : (defScope s_Lsign_of).names.lookup ("len" : Str) = some .globalImplicit := by decide +kernel
theorem g_Lword_BadCell : (defScope s_Lword).names.lookup ("BadCell" : Str) = some .globalImplicit := by decide +kernel
theorem g_Lword_BadCharge : (defScope s_Lword).names.lookup ("BadCharge" : Str) = some .globalImplicit := by decide +kernel
theorem g_Lword_BadFloor : (defScope s_Lword).names.lookup ("BadFloor" : Str) = some .globalImplicit := by decide +kernel
theorem g_Lword_BadKind : (defScope s_Lword).names.lookup ("BadKind" : Str) = some .globalImplicit := by decide +kernel
theorem g_Lword_BadStops : (defScope s_Lword).names.lookup ("BadStops" : Str) = some .globalImplicit := by decide +kernel
theorem g_Lword_BadWay : (defScope s_Lword).names.lookup ("BadWay" : Str) = some .globalImplicit := by decide +kernel
theorem g_Lword_Busy : (defScope s_Lword).names.lookup ("Busy" : Str) = some .globalImplicit := by decide +kernel
theorem g_Lword_Closed : (defScope s_Lword).names.lookup ("Closed" : Str) = some .globalImplicit := by decide +kernel
theorem g_Lword_Empty : (defScope s_Lword).names.lookup ("Empty" : Str) = some .globalImplicit := by decide +kernel
theorem g_Lword_FloorError : (defScope s_Lword).names.lookup ("FloorError" : Str) = some .globalImplicit := by decide +kernel
theorem g_Lword_Jammed : (defScope s_Lword).names.lookup ("Jammed" : Str) = some .globalImplicit := by decide +kernel
theorem g_Lword_Meets : (defScope s_Lword).names.lookup ("Meets" : Str) = some .globalImplicit := by decide +kernel
theorem g_Lword_NoCarrier : (defScope s_Lword).names.lookup ("NoCarrier" : Str) = some .globalImplicit := by decide +kernel
theorem g_Lword_NoReserve : (defScope s_Lword).names.lookup ("NoReserve" : Str) = some .globalImplicit := by decide +kernel
theorem g_Lword_NoTask : (defScope s_Lword).names.lookup ("NoTask" : Str) = some .globalImplicit := by decide +kernel
theorem g_Lword_Taken : (defScope s_Lword).names.lookup ("Taken" : Str) = some .globalImplicit := by decide +kernel
theorem g_Lword_ValueError : (defScope s_Lword).names.lookup ("ValueError" : Str) = some .globalImplicit := by decide +kernel
theorem g_Lword_isinstance : (defScope s_Lword).names.lookup ("isinstance" : Str) = some .globalImplicit := by decide +kernel
theorem g_check_floor_BadFloor : (defScope s_check_floor).names.lookup ("BadFloor" : Str) = some .globalImplicit := by decide +kernel
theorem g_check_floor_MOST_ROWS : (defScope s_check_floor).names.lookup ("MOST_ROWS" : Str) = some .globalImplicit := by decide +kernel
theorem g_check_floor_MOST_SIGNS : (defScope s_check_floor).names.lookup ("MOST_SIGNS" : Str) = some .globalImplicit := by decide +kernel
theorem g_check_floor_all : (defScope s_check_floor).names.lookup ("all" : Str) = some .globalImplicit := by decide +kernel
theorem g_check_floor_check_row : (defScope s_check_floor).names.lookup ("check_row" : Str) = some .globalImplicit := by decide +kernel
theorem g_check_floor_is_among : (defScope s_check_floor).names.lookup ("is_among" : Str) = some .globalImplicit := by decide +kernel
theorem g_check_floor_isinstance : (defScope s_check_floor).names.lookup ("isinstance" : Str) = some .globalImplicit := by decide +kernel
theorem g_check_floor_len : (defScope s_check_floor).names.lookup ("len" : Str) = some .globalImplicit := by decide +kernel
theorem g_check_floor_list : (defScope s_check_floor).names.lookup ("list" : Str) = some .globalImplicit := by decide +kernel
theorem g_check_floor_str : (defScope s_check_floor).names.lookup ("str" : Str) = some .globalImplicit := by decide +kernel
theorem g_check_row_BadFloor : (defScope s_check_row).names.lookup ("BadFloor" : Str) = some .globalImplicit := by decide +kernel
theorem g_check_row_all : (defScope s_check_row).names.lookup ("all" : Str) = some .globalImplicit := by decide +kernel
theorem g_check_row_isinstance : (defScope s_check_row).names.lookup ("isinstance" : Str) = some .globalImplicit := by decide +kernel
theorem g_check_row_len : (defScope s_check_row).names.lookup ("len" : Str) = some .globalImplicit := by decide +kernel
theorem g_check_row_str : (defScope s_check_row).names.lookup ("str" : Str) = some .globalImplicit := by decide +kernel
theorem g_is_among_is_whole : (defScope s_is_among).names.lookup ("is_whole" : Str) = some .globalImplicit := by decide +kernel
theorem g_is_whole_bool : (defScope s_is_whole).names.lookup ("bool" : Str) = some .globalImplicit := by decide +kernel
theorem g_is_whole_int : (defScope s_is_whole).names.lookup ("int" : Str) = some .globalImplicit := by decide +kernel
theorem g_is_whole_isinstance : (defScope s_is_whole).names.lookup ("isinstance" : Str) = some .globalImplicit := by decide +kernel
theorem g_law__law_at : (defScope s_law).names.lookup ("_law_at" : Str) = some .globalImplicit := by decide +kernel
theorem g_law__law_bent : (defScope s_law).names.lookup ("_law_bent" : Str) = some .globalImplicit := by decide +kernel
theorem g_law__law_good : (defScope s_law).names.lookup ("_law_good" : Str) = some .globalImplicit := by decide +kernel
theorem g_law__law_lines : (defScope s_law).names.lookup ("_law_lines" : Str) = some .globalImplicit := by decide +kernel
theorem g_law__law_said : (defScope s_law).names.lookup ("_law_said" : Str) = some .globalImplicit := by decide +kernel
theorem g_law_int : (defScope s_law).names.lookup ("int" : Str) = some .globalImplicit := by decide +kernel
theorem g_law_isinstance : (defScope s_law).names.lookup ("isinstance" : Str) = some .globalImplicit := by decide +kernel
theorem g_law_list : (defScope s_law).names.lookup ("list" : Str) = some .globalImplicit := by decide +kernel
theorem g_law_range : (defScope s_law).names.lookup ("range" : Str) = some .globalImplicit := by decide +kernel
theorem sc_is_whole : FnScope ["thing"] ["thing"] (defScope s_is_whole) := ⟨rfl, rfl, rfl, by decide +kernel, rfl, by decide +kernel, by decide +kernel⟩
set_option maxHeartbeats 4000000 in
local macro_rules | `(tactic| walk_at "RD") => `(tactic| simp only [cxKm, cxKs, cxKt, tNever, tFor_eq, iRng1, iRng2, gTup, gTupL, gCons, gNil, rCatT, rCat, rRep, rJoin, tTryAs, onlyRet, tDisp, tPairs, tYes, rEqK, tSeq, tCallX, tMethX, tMakeX, tRaise, noW, tAsg, tOp, tUn, tVar, tC, rI0, rI, rU, tTest, tIfS, tNext, tRet, tRetN, tDrop, gName, tCB, tCons, tNil, tAndV, tOrV, tNotV, tAnd, tOr, tNot, tB, tIf, tChain, tCall, tBM, tBM0, tLst, tTup, tNoPart, tPart, tSlS, tSl, tBreak, tCont, rSlA, rSlL, rPopAt, rIn, rIxL, rIxT, rIxS, rEq, rNe, scal, rAppend, rPop, rIndex, tFld, sFld, tMeth, tMake, tDNewK, gSub, rSetL, tJoinRev, tComp, sComp, capσ, iStr, iList, iTup, rEqD, cxK, cxA, cxKc, cxAc, L2.start, List.map_cons, List.map_nil, List.length_cons, List.length_nil, List.replicate_succ, List.replicate_zero, List.cons_append, List.nil_append, List.append_nil, Nat.reduceAdd, Nat.reduceSub, List.set_cons_zero, List.set_cons_succ, List.getElem?_cons_zero, List.getElem?_cons_succ, Option.getD_some, Option.getD_none, Option.some.injEq, V.int.injEq, V.ref.injEq, V.bl.injEq, V.str.injEq, V.ty.injEq, exists_eq_left', exists_eq_left, exists_and_left, and_assoc, List.cons.injEq, and_true, true_and, decide_eq_true_eq, Bool.not_eq_true', decide_eq_false_iff_not, Bool.false_eq_true, if_false, if_true, reduceIte, Bool.not_true, Bool.not_false, beq_self_eq_true])
theorem ok_is_whole {fd : FuncData} (F : Fun K "is_whole" "is_whole" s_is_whole ad.is_whole fd) (T : Txt K mg ad) : FnOk P w K mg base CX0 1 ad.is_whole fd ["thing"] (spWhole K) := by
  refine F.ok sc_is_whole (fun vs H Q E h => ?_) (fun cdv A outer s H vs Q E HR h => ?_)
  · obtain ⟨x, rfl, _⟩ := h
    rfl
  · obtain ⟨x, rfl, ty, hq⟩ := h
    have ND := sc_is_whole.nd
    have HU0 := HR.units0
    have HU := HR.units
    have hA := HR.hd
    have hz : (100000 : Nat) ≤ sizeLine := by rw [sizeLine_eq]; decide
    refine ⟨_, (pss_one (ps_ret (pe_and (pe_callB call_isinst (gl_of g_is_whole_isinstance) T.b_isinstance PyProof.Rows.Boot.«isinstance» (pa_cons (pe_var (i := 0) (x := "thing") rfl (vis_of v_is_whole_thing) d_thing e_thing) (pa_cons (pe_bltn (v := .ty "int") (gl_of g_is_whole_int) T.b_int PyProof.Rows.Boot.«int» rfl (hn := n_int) (hd := d_int)) pa_nil (stp rfl)) (stp rfl)) (hn := n_isinstance) (hdb := d_isinstance) (he := stp rfl) (hpl := anp rfl)) (pe_one (pe_not (pe_callB call_isinst (gl_of g_is_whole_isinstance) T.b_isinstance PyProof.Rows.Boot.«isinstance» (pa_cons (pe_var (i := 0) (x := "thing") rfl (vis_of v_is_whole_thing) d_thing e_thing) (pa_cons (pe_bltn (v := .ty "bool") (gl_of g_is_whole_bool) T.b_bool PyProof.Rows.Boot.«bool» rfl (hn := n_bool) (hd := d_bool)) pa_nil (stp rfl)) (stp rfl)) (hn := n_isinstance) (hdb := d_isinstance) (he := stp rfl) (hpl := anp rfl))))))), ?_⟩
    obtain ⟨n, ty⟩ := ty
    have e1 := kit_int ty
    have e2 := kit_bool ty
    walk_at "RD"
    refine ⟨_, ty, _, e1, ?_⟩
    cases hb : isIB x with
    | true =>
      rw [if_pos rfl]
      refine ⟨_, ty, _, e2, ?_⟩
      cases x <;> simp_all [isI, isB, isIB]
    | false =>
      rw [if_neg (by decide)]
      cases x <;> simp_all [isI, isB, isIB]
theorem sc_is_among : FnScope ["thing", "least", "most"] ["thing", "least", "most"] (defScope s_is_among) := ⟨rfl, rfl, rfl, by decide +kernel, rfl, by decide +kernel, by decide +kernel⟩
set_option maxHeartbeats 4000000 in
theorem ok_is_among {fd : FuncData} (F : Fun K "is_among" "is_among" s_is_among ad.is_among fd) (T : Txt K mg ad) {fd_is_whole : FuncData} (B_is_whole : Binds K fd_is_whole ["thing"] []) (G_is_whole : FnOk P w K mg base CX0 1 ad.is_whole fd_is_whole ["thing"] (spWhole K)) : FnOk P w K mg base CX0 2 ad.is_among fd ["thing", "least", "most"] (spAmong K) := by
  refine F.ok sc_is_among (fun vs H Q E h => ?_) (fun cdv A outer s H vs Q E HR h => ?_)
  · obtain ⟨x, lo, hi, rfl, _⟩ := h
    rfl
  · obtain ⟨x, lo, hi, rfl, ty, hq⟩ := h
    have ND := sc_is_among.nd
    have HU0 := HR.units0
    have HU := HR.units
    have hA := HR.hd
    have hz : (100000 : Nat) ≤ sizeLine := by rw [sizeLine_eq]; decide
    refine ⟨_, (pss_one (ps_ret (pe_and (pe_call G_is_whole (HR.mono (by decide)) (gl_of g_is_among_is_whole) T.mg_is_whole T.k_is_whole B_is_whole .nil pass0 (pa_cons (pe_var (i := 0) (x := "thing") rfl (vis_of v_is_among_thing) d_thing e_thing) pa_nil (stp rfl)) (hdb := d_is_whole) (he := stp rfl) (hpl := anp rfl)) (pe_one (pe_chain op_le op_le (pe_var (i := 1) (x := "least") rfl (vis_of v_is_among_least) d_least e_least) (pe_var (i := 0) (x := "thing") rfl (vis_of v_is_among_thing) d_thing e_thing) (pe_var (i := 2) (x := "most") rfl (vis_of v_is_among_most) d_most e_most)))))), ?_⟩
    walk_at "RD"
    refine ⟨x, rfl, ty, ?_⟩
    walk_at "RD"
    cases x <;> simp_all [isI, amg]
    split <;> simp_all
theorem sc_check_row : FnScope ["line", "wide"] ["line", "wide"] (defScope s_check_row) := ⟨rfl, rfl, rfl, by decide +kernel, rfl, by decide +kernel, by decide +kernel⟩
set_option maxHeartbeats 4000000 in
theorem ok_check_row {fd : FuncData} (F : Fun K "check_row" "check_row" s_check_row ad.check_row fd) (T : Txt K mg ad) : FnOk P w K mg base (CXE P w) 1 ad.check_row fd ["line", "wide"] (spRowR ad K) := by
  refine F.okR sc_check_row (fun vs H Q E h => ?_) (fun cdv A outer s H vs Q E HR h => ?_)
  · obtain ⟨x, n, rfl, _⟩ := h
    rfl
  · obtain ⟨x, n, rfl, el, hq⟩ := h
    have ND := sc_check_row.nd
    have HU0 := HR.units0
    have HU := HR.units
    have hA := HR.hd
    have hz : (100000 : Nat) ≤ sizeLine := by rw [sizeLine_eq]; decide
    obtain ⟨u_SIGNS, c_SIGNS, r_SIGNS⟩ := T.c_SIGNS
    refine ⟨_, (pss_cons (ps_if (PW.pt (pw_or (pt_not (pt_val (pe_callB call_isinst (gl_of g_check_row_isinstance) T.b_isinstance PyProof.Rows.Boot.«isinstance» (pa_cons (pe_var (i := 0) (x := "line") rfl (vis_of v_check_row_line) d_line e_line) (pa_cons (pe_bltn (v := .ty "str") (gl_of g_check_row_str) T.b_str PyProof.Rows.Boot.«str» rfl (hn := n_str) (hd := d_str)) pa_nil (stp rfl)) (stp rfl)) (hn := n_isinstance) (hdb := d_isinstance) (he := stp rfl) (hpl := anp rfl)))) (pw_or1 (pt_cmpR op_ne (pe_callB call_len_str (gl_of g_check_row_len) T.b_len PyProof.Rows.Boot.«len» (pa_cons (pe_var (i := 0) (x := "line") rfl (vis_of v_check_row_line) d_line e_line) pa_nil (stp rfl)) (hn := n_len) (hdb := d_len) (he := stp rfl) (hpl := anp rfl)) (pe_var (i := 1) (x := "wide") rfl (vis_of v_check_row_wide) d_wide e_wide) (nomark _)))))
 (pss_one (ps_raise xw_fn rfl (gl_of g_check_row_BadFloor) T.mg_BadFloor T.er_BadFloor (pa_cons pe_str pa_nil (stp rfl)) (hdb := d_BadFloor) (he := stp rfl) (hpl := anp rfl)))
 pss_nil)
 (pss_one (ps_if (pt_not (pt_val (pe_callB call_all_list (gl_of g_check_row_all) T.b_all PyProof.Rows.Boot.«all» (pa_cons (pe_comp (CompScope.of (osc := defScope s_check_row) (tn := ["sign"]) (cn := []) (caps := []) rfl rfl (by decide +kernel) (by decide +kernel) (by decide +kernel) (by decide +kernel) rfl) (calm0 rfl)  (pi_str (pe_var (i := 0) (x := "line") rfl (vis_of v_check_row_line) d_line e_line))
 (fun _ _ _ _ _ => (pg_name (i := 0) (show (["sign"] : List Str).Nodup by decide +kernel) rfl (Or.inl rfl))) (fun _ _ _ _ _ => pts_nil) (fun _ _ _ _ _ => (pe_cmpR op_in_chr (pv 0) (pe_glob (v := V.str (Str.ofString ".#+~|")) (by rfl) c_SIGNS r_SIGNS (hd := d_SIGNS)) (by with_unfolding_all rfl)))) pa_nil (stp rfl)) (hn := n_all) (hdb := d_all) (he := stp rfl) (hpl := anp rfl))))
 (pss_one (ps_raise xw_fn rfl (gl_of g_check_row_BadFloor) T.mg_BadFloor T.er_BadFloor (pa_cons pe_str pa_nil (stp rfl)) (hdb := d_BadFloor) (he := stp rfl) (hpl := anp rfl)))
 pss_nil))), ?_⟩
    obtain ⟨d, hd, _, _, hx⟩ := el
    walk_at "RD"
    rcases hx with ⟨z, rfl, zl, zc⟩ | ⟨⟨nn, ty⟩, ns⟩
    · refine ⟨_, .str z, true, rfl, ?_⟩
      rw [if_neg (by decide)]
      refine ⟨z, rfl, by omega, ?_⟩
      by_cases e : z.length = n
      · rw [if_neg (by omega)]
        refine ⟨z, rfl, comp_pure src_str (fun _ => true) inSg (fun y hy Q h => h) (fun y hy _ Q h => ?_) (by rw [List.length_map, str_len_list]; omega) ?_⟩
        · obtain ⟨c, hc, rfl⟩ := List.mem_map.mp hy
          walk_at "RD"
          exact ⟨c, rfl, h⟩
        · intro D hD
          have ey : ((z.cps.toList.map chr1).filter fun _ => true).map inSg = (z.cps.toList.map fun c => decide (c ∈ (Str.ofString ".#+~|").cps.toList)).map V.bl := by
            rw [List.filter_eq_self.mpr (fun _ _ => rfl), List.map_map, List.map_map]
            rfl
          rw [ey]
          refine ⟨hA, _, SqL.of upd_same, ?_⟩
          have z1 := hq _ (same_new (o := HO.lst ((z.cps.toList.map fun c => decide (c ∈ (Str.ofString ".#+~|").cps.toList)).map V.bl)) hD)
          have e2 : (z.cps.toList.map fun c => decide (c ∈ (Str.ofString ".#+~|").cps.toList)).all id = z.cps.toList.all chOk := by
            rw [List.all_map]
            rfl
          rw [e2]
          simp only [rowOk, decide_eq_true e, Bool.true_and] at z1
          by_cases a : z.cps.toList.all chOk = true
          · rw [if_neg (by rw [a]; decide)]
            rw [if_pos a] at z1
            exact z1
          · rw [Bool.not_eq_true] at a
            rw [if_pos a]
            rw [if_neg (by rw [a]; decide)] at z1
            exact ⟨by omega, z1⟩
      · rw [if_pos (by omega)]
        have z1 := hq H (Same.refl _)
        rw [if_neg (by simp [rowOk, e])] at z1
        exact ⟨by omega, z1⟩
    · refine ⟨_, ty, _, kit_str ty ns, ?_⟩
      rw [if_pos rfl]
      have z1 := hq H (Same.refl _)
      rw [if_neg (by cases x <;> first | (simp [rowOk]; done) | exact absurd rfl (ns _))] at z1
      exact ⟨by omega, z1⟩
theorem sc_check_floor : FnScope ["lines", "line"] ["lines"] (defScope s_check_floor) := ⟨rfl, rfl, rfl, by decide +kernel, rfl, by decide +kernel, by decide +kernel⟩
set_option maxHeartbeats 4000000 in
theorem ok_check_floor {fd : FuncData} (F : Fun K "check_floor" "check_floor" s_check_floor ad.check_floor fd) (T : Txt K mg ad) {fd_is_among : FuncData} (B_is_among : Binds K fd_is_among ["thing", "least", "most"] []) (G_is_among : FnOk P w K mg base CX0 2 ad.is_among fd_is_among ["thing", "least", "most"] (spAmong K)) {fd_check_row : FuncData} (B_check_row : Binds K fd_check_row ["line", "wide"] []) (G_check_row : FnOk P w K mg base (CXE P w) 1 ad.check_row fd_check_row ["line", "wide"] (spRowR ad K)) : FnOk P w K mg base (CXE P w) 3 ad.check_floor fd ["lines"] (spCheckR ad K) := by
  refine F.okR sc_check_floor (fun vs H Q E h => ?_) (fun cdv A outer s H vs Q E HR h => ?_)
  · obtain ⟨v, rfl, _⟩ := h
    rfl
  · obtain ⟨v, rfl, hq⟩ := h
    have ND := sc_check_floor.nd
    have HU0 := HR.units0
    have HU := HR.units
    have hA := HR.hd
    have hz : (100000 : Nat) ≤ sizeLine := by rw [sizeLine_eq]; decide
    obtain ⟨u_WALL, c_WALL, r_WALL⟩ := T.c_WALL
    obtain ⟨u_MOST_ROWS, c_MOST_ROWS, r_MOST_ROWS⟩ := T.c_MOST_ROWS
    obtain ⟨u_MOST_SIGNS, c_MOST_SIGNS, r_MOST_SIGNS⟩ := T.c_MOST_SIGNS
    refine ⟨_, (pss_cons (ps_if (PW.pt (pw_or (pt_not (pt_val (pe_callB call_isinst (gl_of g_check_floor_isinstance) T.b_isinstance PyProof.Rows.Boot.«isinstance» (pa_cons (pe_var (i := 0) (x := "lines") rfl (vis_of v_check_floor_lines) d_lines e_lines) (pa_cons (pe_bltn (v := .ty "list") (gl_of g_check_floor_list) T.b_list PyProof.Rows.Boot.«list» rfl (hn := n_list) (hd := d_list)) pa_nil (stp rfl)) (stp rfl)) (hn := n_isinstance) (hdb := d_isinstance) (he := stp rfl) (hpl := anp rfl)))) (pw_or1 (pt_not (pt_val (pe_call G_is_among (HR.mono (by decide)) (gl_of g_check_floor_is_among) T.mg_is_among T.k_is_among B_is_among .nil pass0 (pa_cons (pe_callB call_len_seq (gl_of g_check_floor_len) T.b_len PyProof.Rows.Boot.«len» (pa_cons (pe_var (i := 0) (x := "lines") rfl (vis_of v_check_floor_lines) d_lines e_lines) pa_nil (stp rfl)) (hn := n_len) (hdb := d_len) (he := stp rfl) (hpl := anp rfl)) (pa_cons pe_int (pa_cons (pe_glob (v := V.int 10) (gl_of g_check_floor_MOST_ROWS) c_MOST_ROWS r_MOST_ROWS (hd := d_MOST_ROWS)) pa_nil (stp rfl)) (stp rfl)) (stp rfl)) (hdb := d_is_among) (he := stp rfl) (hpl := anp rfl)))))))
 (pss_one (ps_raise xw_fn rfl (gl_of g_check_floor_BadFloor) T.mg_BadFloor T.er_BadFloor (pa_cons pe_str pa_nil (stp rfl)) (hdb := d_BadFloor) (he := stp rfl) (hpl := anp rfl)))
 pss_nil)
 (pss_cons (ps_if (PW.pt (pw_or (pt_not (pt_val (pe_callB call_isinst (gl_of g_check_floor_isinstance) T.b_isinstance PyProof.Rows.Boot.«isinstance» (pa_cons (pe_ix ix_list (pe_var (i := 0) (x := "lines") rfl (vis_of v_check_floor_lines) d_lines e_lines) pe_int (fun _ _ => rfl)) (pa_cons (pe_bltn (v := .ty "str") (gl_of g_check_floor_str) T.b_str PyProof.Rows.Boot.«str» rfl (hn := n_str) (hd := d_str)) pa_nil (stp rfl)) (stp rfl)) (hn := n_isinstance) (hdb := d_isinstance) (he := stp rfl) (hpl := anp rfl)))) (pw_or1 (pt_not (pt_val (pe_call G_is_among (HR.mono (by decide)) (gl_of g_check_floor_is_among) T.mg_is_among T.k_is_among B_is_among .nil pass0 (pa_cons (pe_callB call_len_str (gl_of g_check_floor_len) T.b_len PyProof.Rows.Boot.«len» (pa_cons (pe_ix ix_list (pe_var (i := 0) (x := "lines") rfl (vis_of v_check_floor_lines) d_lines e_lines) pe_int (fun _ _ => rfl)) pa_nil (stp rfl)) (hn := n_len) (hdb := d_len) (he := stp rfl) (hpl := anp rfl)) (pa_cons pe_int (pa_cons (pe_glob (v := V.int 10) (gl_of g_check_floor_MOST_SIGNS) c_MOST_SIGNS r_MOST_SIGNS (hd := d_MOST_SIGNS)) pa_nil (stp rfl)) (stp rfl)) (stp rfl)) (hdb := d_is_among) (he := stp rfl) (hpl := anp rfl)))))))
 (pss_one (ps_raise xw_fn rfl (gl_of g_check_floor_BadFloor) T.mg_BadFloor T.er_BadFloor (pa_cons pe_str pa_nil (stp rfl)) (hdb := d_BadFloor) (he := stp rfl) (hpl := anp rfl)))
 pss_nil)
 (pss_cons (ps_for PassesOwn.leaving (calm0 rfl) (pi_list (pe_var (i := 0) (x := "lines") rfl (vis_of v_check_floor_lines) d_lines e_lines)) (pg_name (i := 1) ND rfl (loc_of (Or.inl l_check_floor_line)))
 (pss_one (ps_expr (pe_callX G_check_row (HR.mono (by decide)) (gl_of g_check_floor_check_row) T.mg_check_row T.k_check_row B_check_row .nil xw_fn.toXC (pa_cons (pe_var (i := 1) (x := "line") rfl (vis_of v_check_floor_line) d_line e_line) (pa_cons (pe_callB call_len_str (gl_of g_check_floor_len) T.b_len PyProof.Rows.Boot.«len» (pa_cons (pe_ix ix_list (pe_var (i := 0) (x := "lines") rfl (vis_of v_check_floor_lines) d_lines e_lines) pe_int (fun _ _ => rfl)) pa_nil (stp rfl)) (hn := n_len) (hdb := d_len) (he := stp rfl) (hpl := anp rfl)) pa_nil (stp rfl)) (stp rfl)) (hdb := d_check_row) (he := stp rfl) (hpl := anp rfl)))))
 (pss_one (ps_if (pt_val (pe_callB call_all_list (gl_of g_check_floor_all) T.b_all PyProof.Rows.Boot.«all» (pa_cons (pe_comp (CompScope.of (osc := defScope s_check_floor) (tn := ["sign"]) (cn := []) (caps := []) rfl rfl (by decide +kernel) (by decide +kernel) (by decide +kernel) (by decide +kernel) rfl) (calm0 rfl)  (pi_str (pe_bm PySem.F.plainAttrs_str PySem.F.slot_str_join PySem.F.type_str_join mt_join pe_str (pa_cons (pe_var (i := 0) (x := "lines") rfl (vis_of v_check_floor_lines) d_lines e_lines) pa_nil (stp rfl))))
 (fun _ _ _ _ _ => (pg_name (i := 0) (show (["sign"] : List Str).Nodup by decide +kernel) rfl (Or.inl rfl))) (fun _ _ _ _ _ => pts_nil) (fun _ _ _ _ _ => (pe_cmpR op_eq (pv 0) (pe_glob (v := V.str (Str.ofString "#")) (by rfl) c_WALL r_WALL (hd := d_WALL)) (nomark _)))) pa_nil (stp rfl)) (hn := n_all) (hdb := d_all) (he := stp rfl) (hpl := anp rfl)))
 (pss_one (ps_raise xw_fn rfl (gl_of g_check_floor_BadFloor) T.mg_BadFloor T.er_BadFloor (pa_cons pe_str pa_nil (stp rfl)) (hdb := d_BadFloor) (he := stp rfl) (hpl := anp rfl)))
 pss_nil))))), ?_⟩
    rcases hq with ⟨a, xs, rfl, th, hq⟩ | ⟨⟨nn, ty, nl, _⟩, hq⟩
    · have hL := th.at_
      have l100 := th.len
      refine tSeq_cut (fun σ H' => H' = H ∧ 1 ≤ xs.length ∧ xs.length ≤ 10 ∧ σ = [some (V.ref a), none]) (fun nx hk => ?_) ?_
      · walk_at "RD"
        refine ⟨_, .lst hL, true, rfl, ?_⟩
        rw [if_neg (by decide)]
        refine ⟨_, .inl (SqL.of hL), _, _, _, rfl, ⟨_, .int _⟩, _, rfl, ?_⟩
        by_cases b : 1 ≤ ((xs.length : Nat) : Int) ∧ ((xs.length : Nat) : Int) ≤ 10
        · rw [amg_yes b, if_neg (by decide)]
          exact hk _ _ ⟨rfl, by omega, by omega, rfl⟩
        · rw [amg_not b, if_pos rfl]
          have z1 := hq H (Same.refl _)
          rw [if_neg (by
            cases xs with
            | nil => simp [okL]
            | cons x r =>
              by_cases hx : ∀ z, x ≠ .str z
              · rw [ok_first hx]; decide
              · obtain ⟨z, rfl⟩ := Classical.not_forall_not.mp hx
                rw [ok_not (fun y => b (by have := y.1; simp only [List.length_cons] at this ⊢; omega))]; decide)] at z1
          exact ⟨by omega, z1⟩
      rintro σ H1 ⟨rfl, x0, x10, rfl⟩
      obtain ⟨x, r, rfl⟩ : ∃ x r, xs = x :: r := by cases xs with | nil => simp at x0 | cons x r => exact ⟨x, r, rfl⟩
      have e0 : atI (x :: r) 0 = some x := atI_nat (j := 0) rfl
      refine tSeq_cut (fun σ H' => H' = H1 ∧ (∃ z, x = .str z ∧ 1 ≤ z.length ∧ z.length ≤ 10) ∧ σ = [some (V.ref a), none]) (fun nx hk => ?_) ?_
      · walk_at "RD"
        obtain ⟨d, hd, _, _, hx⟩ := th.els x List.mem_cons_self
        rcases hx with ⟨z, rfl, zl, zc⟩ | ⟨⟨nn, ty⟩, ns⟩
        · refine ⟨_, SqL.of hL, _, e0, _, .str _, true, rfl, ?_⟩
          rw [if_neg (by decide)]
          refine ⟨_, SqL.of hL, _, e0, _, rfl, by omega, _, _, _, rfl, ⟨_, .int _⟩, _, rfl, ?_⟩
          by_cases b : 1 ≤ ((z.length : Nat) : Int) ∧ ((z.length : Nat) : Int) ≤ 10
          · rw [amg_yes b, if_neg (by decide)]
            exact hk _ _ ⟨rfl, ⟨z, rfl, by omega, by omega⟩, rfl⟩
          · rw [amg_not b, if_pos rfl]
            have z1 := hq H1 (Same.refl _)
            rw [if_neg (by rw [ok_not (fun y => b (by omega))]; decide)] at z1
            exact ⟨by omega, z1⟩
        · refine ⟨_, SqL.of hL, _, e0, _, ty, _, kit_str ty ns, ?_⟩
          rw [if_pos rfl]
          have z1 := hq H1 (Same.refl _)
          rw [if_neg (by rw [ok_first ns]; decide)] at z1
          exact ⟨by omega, z1⟩
      rintro σ H2 ⟨rfl, ⟨z, rfl, z1, z10⟩, rfl⟩
      refine tSeq_cut (fun σ H' => ∃ y, Same H2 H' ∧ (∀ x ∈ V.str z :: r, rowOk z.length x = true) ∧ σ = [some (V.ref a), y]) (fun nx hk => ?_) ?_
      · walk_at "RD"
        refine ⟨⟨_, SqL.of hL⟩, for_list (K := K) (a := a) (xs := V.str z :: r) (fun i σ H' => ∃ y, Same H2 H' ∧ (∀ x ∈ (V.str z :: r).take i, rowOk z.length x = true) ∧ σ = [some (V.ref a), y]) ⟨none, Same.refl _, by simp, rfl⟩ (fun i σ H' _ ⟨_, sm, _, _⟩ => SqL.of (sm _ _ hL)) ?_ ?_⟩
        · rintro i y σ H' hi ⟨y0, sm, ih, rfl⟩
          walk_at "RD"
          refine ⟨_, SqL.of (sm _ _ hL), _, e0, _, rfl, by omega, y, z.length, rfl, (th.els y (List.mem_of_getElem? hi)).same sm, fun H3 s3 => ?_⟩
          by_cases b : rowOk z.length y = true
          · rw [if_pos b]
            refine ⟨sm.trans s3, fun x hx => ?_, _, rfl⟩
            rw [List.take_add_one, hi] at hx
            rcases List.mem_append.mp hx with q | q
            · exact ih x q
            · have : x = y := by simpa using q
              rw [this]
              exact b
          · rw [if_neg b]
            have z1 := hq H3 (sm.trans s3)
            rw [if_neg (by rw [ok_not (fun q => b (q.2.2.2 y (List.mem_of_getElem? hi)))]; decide)] at z1
            exact z1
        · rintro σ H' ⟨y, sm, ih, rfl⟩
          rw [List.take_length] at ih
          exact hk _ _ ⟨y, sm, ih, rfl⟩
      rintro σ H3 ⟨y, s3, ih, rfl⟩
      have ok := ok_cons x10 z1 z10 ih
      obtain ⟨zs, ez, hz⟩ := rows_strs ih
      have lz : zs.length ≤ 10 := by
        have := congrArg List.length ez
        rw [List.length_map] at this
        omega
      rw [ez, any_cell] at ok
      have hL3 := s3 _ _ hL
      rw [ez] at hL3
      have esum := sum_const (n := z.length) (zs := zs) fun y hy => (hz y hy).1
      have em : zs.length * z.length ≤ 100 := Nat.mul_le_mul lz z10
      have lf : ((zs.map (·.cps.toList)).flatten).length ≤ 100 := by
        have : ((zs.map (·.cps.toList)).flatten).length = (zs.map (·.length)).sum := by
          rw [List.length_flatten, List.map_map]
          congr 1
        omega
      have l0 : (Str.ofString "").length = 0 := by decide +kernel
      walk_at "RD"
      refine ⟨rfl, _, SqL.of hL3, by rw [esum, l0, Nat.mul_zero]; omega, ?_⟩
      refine comp_pure src_str (fun _ => true) isWall (fun y hy Q h => h) (fun y hy _ Q hh => ?_) (by rw [List.length_map, join_flat]; omega) ?_
      · obtain ⟨c, hc, rfl⟩ := List.mem_map.mp hy
        walk_at "RD"
        refine ⟨rfl, ?_⟩
        have e : isWall (chr1 c) = V.bl (decide (chr1 c = V.str (Str.ofString "#"))) := by
          show V.bl _ = V.bl _
          congr 1
          exact decide_eq_decide.mpr ⟨fun z => congrArg V.str z, fun z => V.str.inj z⟩
        rw [e] at hh
        exact hh
      · intro D hD
        have ey : (((Txt.join (Str.ofString "") zs).cps.toList.map chr1).filter fun _ => true).map isWall = ((zs.map (·.cps.toList)).flatten.map fun c => decide ((⟨#[c]⟩ : Str) = Str.ofString "#")).map V.bl := by
          rw [List.filter_eq_self.mpr (fun _ _ => rfl), List.map_map, List.map_map, join_flat]
          rfl
        rw [ey]
        refine ⟨hA, _, SqL.of upd_same, ?_⟩
        have z1 := hq _ (s3.trans (same_new (o := HO.lst (((zs.map (·.cps.toList)).flatten.map fun c => decide ((⟨#[c]⟩ : Str) = Str.ofString "#")).map V.bl)) hD))
        rw [ez, ok] at z1
        have e2 : ((zs.map (·.cps.toList)).flatten.map fun c => decide ((⟨#[c]⟩ : Str) = Str.ofString "#")).all id = !((zs.map (·.cps.toList)).flatten.any fun c => !decide (c = 35)) := by
          rw [List.all_map, List.not_any_eq_all_not]
          congr 1
          funext c
          show decide _ = !!decide _
          rw [Bool.not_not, decide_eq_decide.mpr (wall_eq c)]
        rw [e2]
        by_cases b : ((zs.map (·.cps.toList)).flatten.any fun c => !decide (c = 35)) = true
        · rw [b] at z1 ⊢
          exact z1
        · rw [Bool.not_eq_true] at b
          rw [b] at z1 ⊢
          exact ⟨by omega, z1⟩
    · walk_at "RD"
      refine ⟨_, ty, _, kit_list ty nl, ?_⟩
      rw [if_pos rfl]
      exact ⟨by omega, hq H (Same.refl _)⟩
theorem sc_Floor_init : FnScope ["self", "lines"] ["self", "lines"] (defScope s_Floor_init) := ⟨rfl, rfl, rfl, by decide +kernel, rfl, by decide +kernel, by decide +kernel⟩
set_option maxHeartbeats 4000000 in
theorem ok_Floor_init {fd : FuncData} (F : Fun K "__init__" "Floor.__init__" s_Floor_init ad.Floor_init fd) (T : Txt K mg ad) {fd_check_floor : FuncData} (B_check_floor : Binds K fd_check_floor ["lines"] []) (G_check_floor : FnOk P w K mg base (CXE P w) 3 ad.check_floor fd_check_floor ["lines"] (spCheckR ad K)) : FnOk P w K mg base (CXE P w) 4 ad.Floor_init fd ["self", "lines"] (spInitR ad K) := by
  refine F.okR sc_Floor_init (fun vs H Q E h => ?_) (fun cdv A outer s H vs Q E HR h => ?_)
  · obtain ⟨p, dx, v, rfl, _⟩ := h
    rfl
  · obtain ⟨p, dx, v, rfl, hp, hq⟩ := h
    have ND := sc_Floor_init.nd
    have HU0 := HR.units0
    have HU := HR.units
    have hA := HR.hd
    have hz : (100000 : Nat) ≤ sizeLine := by rw [sizeLine_eq]; decide
    refine ⟨_, (pss_cons (ps_expr (pe_callX G_check_floor (HR.mono (by decide)) (gl_of g_Floor_init_check_floor) T.mg_check_floor T.k_check_floor B_check_floor .nil xw_fn.toXC (pa_cons (pe_var (i := 1) (x := "lines") rfl (vis_of v_Floor_init_lines) d_lines e_lines) pa_nil (stp rfl)) (hdb := d_check_floor) (he := stp rfl) (hpl := anp rfl)))
 (pss_cons (ps_fld (pe_var (i := 0) (x := "self") rfl (vis_of v_Floor_init_self) d_self e_self) (pe_callB call_len_str (gl_of g_Floor_init_len) T.b_len PyProof.Rows.Boot.«len» (pa_cons (pe_ix ix_list (pe_var (i := 1) (x := "lines") rfl (vis_of v_Floor_init_lines) d_lines e_lines) pe_int (fun _ _ => rfl)) pa_nil (stp rfl)) (hn := n_len) (hdb := d_len) (he := stp rfl) (hpl := anp rfl)) rfl)
 (pss_cons (ps_fld (pe_var (i := 0) (x := "self") rfl (vis_of v_Floor_init_self) d_self e_self) (pe_callB call_len_seq (gl_of g_Floor_init_len) T.b_len PyProof.Rows.Boot.«len» (pa_cons (pe_var (i := 1) (x := "lines") rfl (vis_of v_Floor_init_lines) d_lines e_lines) pa_nil (stp rfl)) (hn := n_len) (hdb := d_len) (he := stp rfl) (hpl := anp rfl)) rfl)
 (pss_cons (ps_fld (pe_var (i := 0) (x := "self") rfl (vis_of v_Floor_init_self) d_self e_self) (pe_callTy call_list_of (gl_of g_Floor_init_list) T.b_list PyProof.Rows.Boot.«list» (pa_cons (pe_var (i := 1) (x := "lines") rfl (vis_of v_Floor_init_lines) d_lines e_lines) pa_nil (stp rfl)) (hn := n_list) (hdb := d_list) (he := stp rfl) (hpl := anp rfl)) rfl)
 (pss_one (ps_fld (pe_var (i := 0) (x := "self") rfl (vis_of v_Floor_init_self) d_self e_self) (pe_bm PySem.F.plainAttrs_str PySem.F.slot_str_join PySem.F.type_str_join mt_join pe_str (pa_cons (pe_var (i := 1) (x := "lines") rfl (vis_of v_Floor_init_lines) d_lines e_lines) pa_nil (stp rfl))) rfl)))))), ?_⟩
    walk_at "RD"
    rcases hq with ⟨a, xs, rfl, th, hok, hno⟩ | ⟨nl, hq⟩
    · refine ⟨_, rfl, .inl ⟨a, xs, rfl, th, fun H1 s1 => ?_⟩⟩
      by_cases b : okL xs = true
      · rw [if_pos b]
        have hL := th.at_
        have l100 := th.len
        have npl : a ≠ p := ne_of hL hp (by intro z; cases z)
        have hL1 := s1 _ _ hL
        have hp1 := s1 _ _ hp
        obtain ⟨z, r, rfl⟩ : ∃ z r, xs = V.str z :: r := by
          cases xs with
          | nil => simp [okL] at b
          | cons x r =>
            cases x with
            | str z => exact ⟨z, r, rfl⟩
            | _ => cases b
        simp only [okL, Bool.and_eq_true, decide_eq_true_eq] at b
        obtain ⟨zs, ez, hz⟩ := rows_strs (List.all_eq_true.mp b.1.2)
        have z10 := b.1.1.2
        have e0 : atI (V.str z :: r) 0 = some (V.str z) := atI_nat (j := 0) rfl
        have lz : zs.length ≤ 10 := by
          have := congrArg List.length ez
          rw [List.length_map] at this
          omega
        have esum := sum_const (n := z.length) (zs := zs) fun y hy => (hz y hy).1
        have em : zs.length * z.length ≤ 100 := Nat.mul_le_mul lz z10
        have l0 : (Str.ofString "").length = 0 := by decide +kernel
        dsimp only
        refine ⟨a, rfl, _, SqL.of hL1, _, e0, _, rfl, by omega, _, _, _, hp1, T.cl_Floor, T.n_Floor_wide, by show 0 < 1000; decide, a, rfl, _, .inl (SqL.of (by rw [upd_ne npl]; exact hL1)), _, _, _, upd_same, T.cl_Floor, T.n_Floor_high, by show 1 < 1000; decide, a, rfl, _, .inl (SqL.of (by rw [upd_ne npl, upd_ne npl]; exact hL1)), fun l2 n2 => ?_⟩
        have np2 : l2 ≠ p := fun z => by rw [z, upd_same] at n2; cases n2
        have n20 : H1 l2 = none := by rw [upd_ne np2, upd_ne np2] at n2; exact n2
        have nl2 : a ≠ l2 := ne_of_none hL1 n20
        refine ⟨_, _, _, by rw [upd_ne np2.symm, upd_same], T.cl_Floor, T.n_Floor_lines, by show 2 < 1000; decide, rfl, a, rfl, zs, SqL.of (by rw [upd_ne npl, upd_ne nl2, upd_ne npl, upd_ne npl, ← ez]; exact hL1), by rw [esum, l0, Nat.mul_zero]; omega, _, _, _, upd_same, T.cl_Floor, T.n_Floor_signs, by show 3 < 1000; decide, ?_⟩
        refine hok (by simp only [okL, Bool.and_eq_true, decide_eq_true_eq]; exact b) _ dx l2 _ (s1.free n20) upd_same ?_ ?_ fun b o hb nb => ?_
        · rw [lookup_putF, if_neg (by decide +kernel), lookup_putF, if_pos rfl]
        · rw [upd_ne np2, upd_ne np2, upd_same]
        · have hb1 := s1 _ _ hb
          rw [upd_ne nb, upd_ne nb, upd_ne (ne_of_none hb1 n20), upd_ne nb, upd_ne nb]
          exact hb1
      · rw [if_neg b]
        exact hno (by simpa using b) H1 s1
    · exact ⟨_, rfl, .inr ⟨nl, hq⟩⟩
theorem sc_Lat : FnScope ["_law_script", "_law_k", "_law_cell"] ["_law_script", "_law_k"] (defScope s_Lat) := ⟨rfl, rfl, rfl, by decide +kernel, rfl, by decide +kernel, by decide +kernel⟩
set_option maxHeartbeats 4000000 in
theorem ok_Lat {fd : FuncData} (F : Fun K "_law_at" "_law_at" s_Lat ad.Lat fd) (T : Txt K mg ad) : FnOk P w K mg base CX0 1 ad.Lat fd ["_law_script", "_law_k"] (spAt K) := by
  refine F.ok sc_Lat (fun vs H Q E h => ?_) (fun cdv A outer s H vs Q E HR h => ?_)
  · obtain ⟨a, ns, k, rfl, _⟩ := h
    rfl
  · obtain ⟨a, ns, k, rfl, hS, hl, h0, h1, hq⟩ := h
    have ND := sc_Lat.nd
    have HU0 := HR.units0
    have HU := HR.units
    have hA := HR.hd
    have hz : (100000 : Nat) ≤ sizeLine := by rw [sizeLine_eq]; decide
    refine ⟨_, (pss_cons (ps_set (i := 2) ND rfl (loc_of (Or.inl l_Lat__law_cell)) pe_int)
 (pss_cons (ps_if (pt_cmpR op_lt (pe_var (i := 1) (x := "_law_k") rfl (vis_of v_Lat__law_k) d__law_k e__law_k) (pe_callB call_len_seq (gl_of g_Lat_len) T.b_len PyProof.Rows.Boot.«len» (pa_cons (pe_var (i := 0) (x := "_law_script") rfl (vis_of v_Lat__law_script) d__law_script e__law_script) pa_nil (stp rfl)) (hn := n_len) (hdb := d_len) (he := stp rfl) (hpl := anp rfl)) (nomark _))
 (pss_one (ps_set (i := 2) ND rfl (loc_of (Or.inl l_Lat__law_cell)) (pe_ix ix_list (pe_var (i := 0) (x := "_law_script") rfl (vis_of v_Lat__law_script) d__law_script e__law_script) (pe_var (i := 1) (x := "_law_k") rfl (vis_of v_Lat__law_k) d__law_k e__law_k) (fun _ _ => rfl))))
 pss_nil)
 (pss_one (ps_ret (pe_op op_mod (pe_op op_mul (pe_op op_add (pe_op op_add (pe_op op_mod (pe_var (i := 2) (x := "_law_cell") rfl (vis_of v_Lat__law_cell) d__law_cell e__law_cell) pe_int) (pe_op op_mul (pe_op op_mul pe_int (pe_var (i := 1) (x := "_law_k") rfl (vis_of v_Lat__law_k) d__law_k e__law_k)) (pe_var (i := 1) (x := "_law_k") rfl (vis_of v_Lat__law_k) d__law_k e__law_k))) pe_int) (pe_op op_add pe_int (pe_op op_mul pe_int (pe_var (i := 1) (x := "_law_k") rfl (vis_of v_Lat__law_k) d__law_k e__law_k)))) pe_int))))), ?_⟩
    walk_at "RD"
    have fin : ∀ i : Int, 0 < (1000000007 : Int) ∧ CMul 7919 k ∧ CMul (7919 * k) k ∧ CMul 2 k ∧ CMul (i % 1000000007 + 7919 * k * k + 31) (48271 + 2 * k) ∧ 0 < (2147483647 : Int) ∧ Q (V.int ((i % 1000000007 + 7919 * k * k + 31) * (48271 + 2 * k) % 2147483647)) H := fun i =>
      ⟨by decide, (by first | (left; constructor <;> omega) | (right; constructor <;> omega)), (by first | (left; constructor <;> omega) | (right; constructor <;> omega)), (by first | (left; constructor <;> omega) | (right; constructor <;> omega)), (by first | (left; constructor <;> omega) | (right; constructor <;> omega)), by decide, hq _ (Int.emod_nonneg _ (by decide)) (Int.emod_lt_of_pos _ (by decide))⟩
    refine ⟨ns.map V.int, .inl hS, ?_⟩
    split
    · rename_i hk
      have hk' : k.toNat < ns.length := by simp at hk; omega
      obtain ⟨j, rfl⟩ := Int.eq_ofNat_of_zero_le h0
      have hj : j < ns.length := by simpa using hk'
      exact ⟨_, hS, .int ns[j], atI_nat (by simp [hj]), _, rfl, fin _⟩
    · exact fin 0
theorem sc_Lmixed : FnScope ["_law_cell", "_law_k"] ["_law_cell", "_law_k"] (defScope s_Lmixed) := ⟨rfl, rfl, rfl, by decide +kernel, rfl, by decide +kernel, by decide +kernel⟩
set_option maxHeartbeats 4000000 in
theorem ok_Lmixed {fd : FuncData} (F : Fun K "_law_mixed" "_law_mixed" s_Lmixed ad.Lmixed fd) (T : Txt K mg ad) : FnOk P w K mg base CX0 1 ad.Lmixed fd ["_law_cell", "_law_k"] (spMixed) := by
  refine F.ok sc_Lmixed (fun vs H Q E h => ?_) (fun cdv A outer s H vs Q E HR h => ?_)
  · obtain ⟨c, k, rfl, _⟩ := h
    rfl
  · obtain ⟨c, k, rfl, c0, c1, k0, k1, hq⟩ := h
    have ND := sc_Lmixed.nd
    have HU0 := HR.units0
    have HU := HR.units
    have hA := HR.hd
    have hz : (100000 : Nat) ≤ sizeLine := by rw [sizeLine_eq]; decide
    refine ⟨_, (pss_one (ps_ret (pe_op op_mod (pe_op op_mul (pe_op op_add (pe_op op_add (pe_op op_fdiv (pe_var (i := 0) (x := "_law_cell") rfl (vis_of v_Lmixed__law_cell) d__law_cell e__law_cell) pe_int) (pe_op op_mul (pe_op op_mul pe_int (pe_var (i := 1) (x := "_law_k") rfl (vis_of v_Lmixed__law_k) d__law_k e__law_k)) (pe_var (i := 1) (x := "_law_k") rfl (vis_of v_Lmixed__law_k) d__law_k e__law_k))) pe_int) (pe_op op_add pe_int (pe_op op_mul pe_int (pe_var (i := 1) (x := "_law_k") rfl (vis_of v_Lmixed__law_k) d__law_k e__law_k)))) pe_int))), ?_⟩
    walk_at "RD"
    exact ⟨⟨by decide, by decide⟩, .inl ⟨by decide, by decide⟩, .inr ⟨by omega, by omega⟩, .inl ⟨by decide, by decide⟩, .inr ⟨by omega, by omega⟩, by decide, hq _ (Int.emod_nonneg _ (by decide)) (Int.emod_lt_of_pos _ (by decide))⟩
theorem sc_Llines : FnScope ["_law_script", "_law_k", "_law_most", "_law_first", "_law_wide", "_law_high", "_law_signs", "_law_text", "_law_j"] ["_law_script", "_law_k", "_law_most"] (defScope s_Llines) := ⟨rfl, rfl, rfl, by decide +kernel, rfl, by decide +kernel, by decide +kernel⟩
set_option maxHeartbeats 4000000 in
theorem ok_Llines {fd : FuncData} (F : Fun K "_law_lines" "_law_lines" s_Llines ad.Llines fd) (T : Txt K mg ad) {fd_Lat : FuncData} (B_Lat : Binds K fd_Lat ["_law_script", "_law_k"] []) (G_Lat : FnOk P w K mg base CX0 1 ad.Lat fd_Lat ["_law_script", "_law_k"] (spAt K)) {fd_Lmixed : FuncData} (B_Lmixed : Binds K fd_Lmixed ["_law_cell", "_law_k"] []) (G_Lmixed : FnOk P w K mg base CX0 1 ad.Lmixed fd_Lmixed ["_law_cell", "_law_k"] (spMixed)) : FnOk P w K mg base CX0 2 ad.Llines fd ["_law_script", "_law_k", "_law_most"] (spLines K) := by
  refine F.ok sc_Llines (fun vs H Q E h => ?_) (fun cdv A outer s H vs Q E HR h => ?_)
  · obtain ⟨a, ns, k, m, rfl, _⟩ := h
    rfl
  · obtain ⟨a, ns, k, m, rfl, hS, hl, k0, k1, m0, m1, hq⟩ := h
    have ND := sc_Llines.nd
    have HU0 := HR.units0
    have HU := HR.units
    have hA := HR.hd
    have hz : (100000 : Nat) ≤ sizeLine := by rw [sizeLine_eq]; decide
    refine ⟨_, (pss_cons (ps_set (i := 3) ND rfl (loc_of (Or.inl l_Llines__law_first)) (pe_call G_Lat (HR.mono (by decide)) (gl_of g_Llines__law_at) T.mg_Lat T.k_Lat B_Lat .nil pass0 (pa_cons (pe_var (i := 0) (x := "_law_script") rfl (vis_of v_Llines__law_script) d__law_script e__law_script) (pa_cons (pe_var (i := 1) (x := "_law_k") rfl (vis_of v_Llines__law_k) d__law_k e__law_k) pa_nil (stp rfl)) (stp rfl)) (hdb := d__law_at) (he := stp rfl) (hpl := anp rfl)))
 (pss_cons (ps_set (i := 4) ND rfl (loc_of (Or.inr l_Llines__law_wide)) (pe_op op_add pe_int (pe_op op_mod (pe_op op_fdiv (pe_var (i := 3) (x := "_law_first") rfl (vis_of v_Llines__law_first) d__law_first e__law_first) pe_int) (pe_var (i := 2) (x := "_law_most") rfl (vis_of v_Llines__law_most) d__law_most e__law_most))))
 (pss_cons (ps_set (i := 5) ND rfl (loc_of (Or.inl l_Llines__law_high)) (pe_op op_add pe_int (pe_op op_mod (pe_op op_fdiv (pe_var (i := 3) (x := "_law_first") rfl (vis_of v_Llines__law_first) d__law_first e__law_first) pe_int) (pe_var (i := 2) (x := "_law_most") rfl (vis_of v_Llines__law_most) d__law_most e__law_most))))
 (pss_cons (ps_set (i := 6) ND rfl (loc_of (Or.inl l_Llines__law_signs)) (pe_ix ix_list (pe_lst (pa_cons pe_str (pa_cons pe_str (pa_cons pe_str (pa_cons pe_str (pa_cons pe_str pa_nil (stp rfl)) (stp rfl)) (stp rfl)) (stp rfl)) (stp rfl))) (pe_op op_mod (pe_op op_fdiv (pe_var (i := 3) (x := "_law_first") rfl (vis_of v_Llines__law_first) d__law_first e__law_first) pe_int) pe_int) (fun _ _ => rfl)))
 (pss_cons (ps_set (i := 7) ND rfl (loc_of (Or.inr l_Llines__law_text)) pe_str)
 (pss_cons (ps_for PassesOwn.never (calm0 rfl) (pi_range1 (gl_of g_Llines_range) T.b_range (pa_cons (pe_op op_mul (pe_var (i := 4) (x := "_law_wide") rfl (vis_of v_Llines__law_wide) d__law_wide e__law_wide) (pe_var (i := 5) (x := "_law_high") rfl (vis_of v_Llines__law_high) d__law_high e__law_high)) pa_nil (stp rfl)) (st1 rfl)) (pg_name (i := 8) ND rfl (loc_of (Or.inl l_Llines__law_j)))
 (pss_one (ps_set (i := 7) ND rfl (loc_of (Or.inr l_Llines__law_text)) (pe_op op_add_str (pe_var (i := 7) (x := "_law_text") rfl (vis_of v_Llines__law_text) d__law_text e__law_text) (pe_ix ix_str (pe_var (i := 6) (x := "_law_signs") rfl (vis_of v_Llines__law_signs) d__law_signs e__law_signs) (pe_op op_mod (pe_op op_fdiv (pe_call G_Lmixed (HR.mono (by decide)) (gl_of g_Llines__law_mixed) T.mg_Lmixed T.k_Lmixed B_Lmixed .nil pass0 (pa_cons (pe_call G_Lat (HR.mono (by decide)) (gl_of g_Llines__law_at) T.mg_Lat T.k_Lat B_Lat .nil pass0 (pa_cons (pe_var (i := 0) (x := "_law_script") rfl (vis_of v_Llines__law_script) d__law_script e__law_script) (pa_cons (pe_op op_add (pe_op op_add (pe_var (i := 1) (x := "_law_k") rfl (vis_of v_Llines__law_k) d__law_k e__law_k) pe_int) (pe_op op_mod (pe_var (i := 8) (x := "_law_j") rfl (vis_of v_Llines__law_j) d__law_j e__law_j) pe_int)) pa_nil (stp rfl)) (stp rfl)) (hdb := d__law_at) (he := stp rfl) (hpl := anp rfl)) (pa_cons (pe_var (i := 8) (x := "_law_j") rfl (vis_of v_Llines__law_j) d__law_j e__law_j) pa_nil (stp rfl)) (stp rfl)) (hdb := d__law_mixed) (he := stp rfl) (hpl := anp rfl)) pe_int) (pe_callB call_len_str (gl_of g_Llines_len) T.b_len PyProof.Rows.Boot.«len» (pa_cons (pe_var (i := 6) (x := "_law_signs") rfl (vis_of v_Llines__law_signs) d__law_signs e__law_signs) pa_nil (stp rfl)) (hn := n_len) (hdb := d_len) (he := stp rfl) (hpl := anp rfl))) (fun _ _ => rfl))))))
 (pss_cons (ps_if (pt_cmpR op_eq (pe_var (i := 7) (x := "_law_text") rfl (vis_of v_Llines__law_text) d__law_text e__law_text) (pe_op op_mul_str pe_str (pe_callB call_len_str (gl_of g_Llines_len) T.b_len PyProof.Rows.Boot.«len» (pa_cons (pe_var (i := 7) (x := "_law_text") rfl (vis_of v_Llines__law_text) d__law_text e__law_text) pa_nil (stp rfl)) (hn := n_len) (hdb := d_len) (he := stp rfl) (hpl := anp rfl))) (nomark _))
 (pss_one (ps_set (i := 7) ND rfl (loc_of (Or.inr l_Llines__law_text)) (pe_op op_add_str pe_str (pe_sliceS (pe_var (i := 7) (x := "_law_text") rfl (vis_of v_Llines__law_text) d__law_text e__law_text) (po_some pe_int) po_none))))
 pss_nil)
 (pss_one (ps_ret (pe_comp (CompScope.of (osc := defScope s_Llines) (tn := ["_law_j"]) (cn := ["_law_text", "_law_wide"]) (caps := [7, 4]) rfl rfl (by decide +kernel) (by decide +kernel) (by decide +kernel) (by decide +kernel) rfl) (calm0 rfl)  (pi_range1 (gl_of g_Llines_range) T.b_range (pa_cons (pe_var (i := 5) (x := "_law_high") rfl (vis_of v_Llines__law_high) d__law_high e__law_high) pa_nil (stp rfl)) (st1 rfl))
 (fun _ _ _ _ _ => (pg_name (i := 0) (show (["_law_j", "_law_text", "_law_wide"] : List Str).Nodup by decide +kernel) rfl (Or.inl rfl))) (fun _ _ _ _ _ => pts_nil) (fun _ _ _ _ _ => (pe_sliceS (pv 1) (po_some (pe_op op_mul (pv 2) (pv 0))) (po_some (pe_op op_add (pe_op op_mul (pv 2) (pv 0)) (pv 2))))))))))))))), ?_⟩
    have tab : ∀ i : Int, ∃ z : Str, atI [V.str (Str.ofString ".....+#~|."), V.str (Str.ofString "..+#~|..#."), V.str (Str.ofString "+~|~.|~+.."), V.str (Str.ofString ".#.#.+.|.~"), V.str (Str.ofString "|+.#")] (i / 847 % 5) = some (V.str z) ∧ 1 ≤ z.length ∧ z.length ≤ 10 ∧ (∀ c ∈ z.cps.toList, sgOk c) := fun i => by
      have h5 : i / 847 % 5 = 0 ∨ i / 847 % 5 = 1 ∨ i / 847 % 5 = 2 ∨ i / 847 % 5 = 3 ∨ i / 847 % 5 = 4 := by omega
      unfold sgOk
      rcases h5 with h | h | h | h | h <;> rw [h] <;> exact ⟨_, rfl, by decide +kernel, by decide +kernel, by decide +kernel⟩
    refine tSeq_cut (fun σ H' => ∃ c : Int, 0 ≤ c ∧ H' = H ∧ σ = [some (V.ref a), some (V.int k), some (V.int m), some (V.int c), none, none, none, none, none]) (fun nx hk => ?_) ?_
    · walk_at "RD"
      exact ⟨_, _, _, rfl, hS, hl, k0, by omega, fun r r0 r1 => hk _ _ ⟨r, r0, rfl, rfl⟩⟩
    rintro σ H1 ⟨c, c0, rfl, rfl⟩
    refine tSeq_cut (fun σ H' => ∃ w : Nat, 1 ≤ w ∧ w ≤ 10 ∧ H' = H1 ∧ σ = [some (V.ref a), some (V.int k), some (V.int m), some (V.int c), some (V.int (w : Int)), none, none, none, none]) (fun nx hk => ?_) ?_
    · walk_at "RD"
      have e1 := Int.emod_nonneg (c / 7) (show m ≠ 0 by omega)
      have e2 := Int.emod_lt_of_pos (c / 7) (show 0 < m by omega)
      exact ⟨⟨by decide, by decide⟩, by omega, hk _ _ ⟨(1 + c / 7 % m).toNat, by omega, by omega, rfl, by rw [Int.toNat_of_nonneg (by omega)]⟩⟩
    rintro σ H2 ⟨w, w0, w1, rfl, rfl⟩
    refine tSeq_cut (fun σ H' => ∃ h : Nat, 1 ≤ h ∧ h ≤ 10 ∧ H' = H2 ∧ σ = [some (V.ref a), some (V.int k), some (V.int m), some (V.int c), some (V.int (w : Int)), some (V.int (h : Int)), none, none, none]) (fun nx hk => ?_) ?_
    · walk_at "RD"
      have e1 := Int.emod_nonneg (c / 77) (show m ≠ 0 by omega)
      have e2 := Int.emod_lt_of_pos (c / 77) (show 0 < m by omega)
      exact ⟨⟨by decide, by decide⟩, by omega, hk _ _ ⟨(1 + c / 77 % m).toNat, by omega, by omega, rfl, by rw [Int.toNat_of_nonneg (by omega)]⟩⟩
    rintro σ H3 ⟨h, h0, h1, rfl, rfl⟩
    refine tSeq_cut (fun σ H' => ∃ z : Str, 1 ≤ z.length ∧ z.length ≤ 10 ∧ (∀ c ∈ z.cps.toList, sgOk c) ∧ Same H3 H' ∧ σ = [some (V.ref a), some (V.int k), some (V.int m), some (V.int c), some (V.int (w : Int)), some (V.int (h : Int)), some (V.str z), none, none]) (fun nx hk => ?_) ?_
    · walk_at "RD"
      obtain ⟨z, hz1, hz2, hz3, hz4⟩ := tab c
      exact ⟨by omega, fun p np => ⟨⟨by decide, by decide⟩, by decide, _, SqL.of upd_same, _, hz1, hk _ _ ⟨z, hz2, hz3, hz4, same_new np, rfl⟩⟩⟩
    rintro σ H4 ⟨z, z0, z1, zok, s4, rfl⟩
    have hS4 := s4.seq hS
    have hwh : w * h ≤ 100 := Nat.mul_le_mul w1 h1
    have hwh1 : 1 ≤ w * h := Nat.mul_le_mul w0 h0
    have em : ((w : Int) * (h : Int)) = ((w * h : Nat) : Int) := by simp
    refine tSeq_cut (fun σ H' => H' = H4 ∧ σ = [some (V.ref a), some (V.int k), some (V.int m), some (V.int c), some (V.int (w : Int)), some (V.int (h : Int)), some (V.str z), some (V.str (txt [])), none]) (fun nx hk => ?_) ?_
    · walk_at "RD"
      exact hk _ _ ⟨rfl, by rw [show Str.ofString "" = txt [] from str_ext (by decide +kernel)]⟩
    rintro σ H5 ⟨rfl, rfl⟩
    refine tSeq_cut (fun σ H' => ∃ (cs : List Nat) (j : Option V), cs.length = w * h ∧ (∀ c ∈ cs, sgOk c) ∧ H' = H5 ∧ σ = [some (V.ref a), some (V.int k), some (V.int m), some (V.int c), some (V.int (w : Int)), some (V.int (h : Int)), some (V.str z), some (V.str (txt cs)), j]) (fun nx hk => ?_) ?_
    · walk_at "RD"
      refine ⟨.inl ⟨by omega, by omega⟩, by rw [em]; omega, by rw [em]; omega, for_range (fun i σ H' => ∃ (cs : List Nat) (j : Option V), cs.length = i ∧ (∀ c ∈ cs, sgOk c) ∧ H' = H5 ∧ σ = [some (V.ref a), some (V.int k), some (V.int m), some (V.int c), some (V.int (w : Int)), some (V.int (h : Int)), some (V.str z), some (V.str (txt cs)), j]) ⟨[], none, rfl, by simp, rfl, rfl⟩ ?_ ?_⟩
      · rintro i σ H' hi ⟨cs, j, hcs, cok, rfl, rfl⟩
        have hi' : i < w * h := by rw [em] at hi; omega
        walk_at "RD"
        refine ⟨by decide, _, _, _, rfl, hS4, hl, by omega, by omega, fun r r0 r1 => ⟨_, _, rfl, r0, r1, by omega, by omega, fun q q0 q1 => ⟨_, rfl, ⟨by decide, by decide⟩, by omega, by omega, by omega, ?_⟩⟩⟩
        have e1 := Int.emod_nonneg (q / 11) (show (z.length : Int) ≠ 0 by omega)
        have e2 := Int.emod_lt_of_pos (q / 11) (show (0 : Int) < z.length by omega)
        obtain ⟨t, ht⟩ := Int.eq_ofNat_of_zero_le e1
        rw [ht] at e2 ⊢
        have ht2 : t < z.cps.toList.length := by rw [str_len_list]; omega
        refine ⟨z.cps.toList[t], atI_nat (List.getElem?_eq_getElem ht2), ?_, cs ++ [z.cps.toList[t]], by simp; omega, ?_, rfl, ?_, _, rfl⟩
        · rw [txt_len]
          show cs.length + 1 ≤ sizeLine
          omega
        · intro c hc
          rcases List.mem_append.mp hc with y | y
          · exact cok c y
          · have : c = z.cps.toList[t] := by simpa using y
            rw [this]
            exact zok _ (List.getElem_mem ht2)
        · refine str_ext ?_
          rw [str_app_list, txt_list, txt_list]
      · rintro σ H' ⟨cs, j, hcs, cok, rfl, rfl⟩
        exact hk _ _ ⟨cs, j, by rw [hcs, em, Int.toNat_natCast], cok, rfl, rfl⟩
    rintro σ H6 ⟨cs, j, hcs, cok, rfl, rfl⟩
    refine tSeq_cut (fun σ H' => ∃ (cs : List Nat), Good w h cs ∧ H' = H6 ∧ σ = [some (V.ref a), some (V.int k), some (V.int m), some (V.int c), some (V.int (w : Int)), some (V.int (h : Int)), some (V.str z), some (V.str (txt cs)), j]) (fun nx hk => ?_) ?_
    · walk_at "RD"
      have eq7 : (Txt.mul (Str.ofString "#") (((txt cs).length : Nat) : Int)).cps.toList = List.replicate cs.length 35 := by
        rw [mul_list, txt_len]
        have e : (Str.ofString "#").cps.toList = [35] := by decide +kernel
        rw [e]
        generalize cs.length = n
        induction n with
        | zero => rfl
        | succ n ih => rw [List.replicate_succ, List.flatten_cons, ih, List.replicate_succ]; rfl
      have l1 : (Str.ofString "#").length = 1 := by decide +kernel
      have lx : (txt cs).length = w * h := by rw [txt_len, hcs]
      refine ⟨by omega, mul_ok _ _ (by omega) (by rw [l1, Nat.one_mul]; omega), ?_⟩
      split
      · have ld : (Str.ofString ".").length = 1 := by decide +kernel
        have sl := Txt.slice_le (txt cs) (some 1) none
        refine ⟨by omega, by omega, hk _ _ ⟨46 :: cs.drop 1, ⟨w0, w1, h0, h1, ?_, ?_, 46, by simp, by decide⟩, rfl, ?_⟩⟩
        · rw [List.length_cons, List.length_drop]; omega
        · intro c hc
          rcases List.mem_cons.mp hc with y | y
          · exact .inl y
          · exact cok c (List.mem_of_mem_drop y)
        · have : Str.ofString "." ++ Txt.slice (txt cs) (some 1) none = txt (46 :: cs.drop 1) := by
            refine str_ext ?_
            rw [str_app_list, slice_from1, txt_list]
            have e : (Str.ofString ".").cps.toList = [46] := by decide +kernel
            rw [e]
            rfl
          rw [this]
      · rename_i hne
        refine hk _ _ ⟨cs, ⟨w0, w1, h0, h1, hcs, cok, ?_⟩, rfl, rfl⟩
        apply Classical.byContradiction
        intro hno
        refine hne (str_ext ?_)
        rw [eq7, txt_list]
        refine List.eq_replicate_iff.mpr ⟨rfl, fun c hc => ?_⟩
        apply Classical.byContradiction
        intro h35
        exact hno ⟨c, hc, h35⟩
    rintro σ H7 ⟨sg, g, rfl, rfl⟩
    have l100 := len100 g
    walk_at "RD"
    refine ⟨by omega, by omega, ?_⟩
    rw [Int.toNat_natCast]
    refine comp_pure src_range (fun _ => true) (lineV w sg) (fun y hy Q hh => hh) (fun y hy _ Q hh => ?_) (by rw [List.length_map, List.length_range]; omega) ?_
    · obtain ⟨i, hi, rfl⟩ := List.mem_map.mp hy
      walk_at "RD"
      refine ⟨.inl ⟨by omega, by omega⟩, .inl ⟨by omega, by omega⟩, by rw [txt_len]; omega, hh⟩
    · intro D hD
      have e : (((List.range h).map fun i => V.int (0 + ((i : Nat) : Int))).filter fun _ => true).map (lineV w sg) = (linesOf w h sg).map V.str := by
        rw [List.filter_eq_self.mpr (fun _ _ => rfl), List.map_map, Fl.linesOf, List.map_map]
        refine List.map_congr_left fun i hi => ?_
        have hi' := List.mem_range.mp hi
        show V.str _ = V.str _
        rw [← slice_line g.len hi']
        congr 3
        · simp
        · simp
      rw [e]
      exact hq D _ w h sg (s4.free hD) (s4.trans (same_new hD)) upd_same g
theorem sc_Lword : FnScope ["_law_error", "_law_some", "_law_found"] ["_law_error"] (defScope s_Lword) := ⟨rfl, rfl, rfl, by decide +kernel, rfl, by decide +kernel, by decide +kernel⟩
set_option maxHeartbeats 4000000 in
theorem okM_Lword {fd : FuncData} (F : Fun K "_law_word" "_law_word" s_Lword ad.Lword fd) (T : Txt K mg ad) {ea C : Addr} {dx : Option Addr} {ob : Obj} (mk : MkO C dx ob) : FnOkM P w K mg base ea ob 1 ad.Lword fd ["_law_error"] (spWord ad K ea C dx) := by
  refine F.okM mk sc_Lword (fun vs H Q E h => ?_) (fun cdv A outer s H vs Q HRM CM HH h => ?_)
  · obtain ⟨n, rfl, _⟩ := h
    rfl
  · obtain ⟨n, rfl, rfl, ⟨er, si, fe, ve⟩, hn, hq⟩ := h
    have ND := sc_Lword.nd
    have HU0 := HRM.units0
    have HU := HRM.units
    have hz : (100000 : Nat) ≤ sizeLine := by rw [sizeLine_eq]; decide
    refine ⟨_, (pss_cons (ps_set (i := 1) ND rfl (loc_of (Or.inl l_Lword__law_some)) (pe_lst (pa_cons (pe_tup (pa_cons pe_str (pa_cons (pe_callB (call_isinstE (mkd_m HH) mk er) (gl_of g_Lword_isinstance) T.b_isinstance PyProof.Rows.Boot.«isinstance» (pa_cons (pe_var (i := 0) (x := "_law_error") rfl (vis_of v_Lword__law_error) d__law_error e__law_error) (pa_cons (pe_glob (v := .ref ad.C_BadFloor) (gl_of g_Lword_BadFloor) T.mg_BadFloor rfl (hd := d_BadFloor)) pa_nil (stp rfl)) (stp rfl)) (hn := n_isinstance) (hdb := d_isinstance) (he := stp rfl) (hpl := anp rfl)) pa_nil (stp rfl)) (stp rfl))) (pa_cons (pe_tup (pa_cons pe_str (pa_cons (pe_callB (call_isinstE (mkd_m HH) mk er) (gl_of g_Lword_isinstance) T.b_isinstance PyProof.Rows.Boot.«isinstance» (pa_cons (pe_var (i := 0) (x := "_law_error") rfl (vis_of v_Lword__law_error) d__law_error e__law_error) (pa_cons (pe_glob (v := .ref ad.C_BadKind) (gl_of g_Lword_BadKind) T.mg_BadKind rfl (hd := d_BadKind)) pa_nil (stp rfl)) (stp rfl)) (hn := n_isinstance) (hdb := d_isinstance) (he := stp rfl) (hpl := anp rfl)) pa_nil (stp rfl)) (stp rfl))) pa_nil (stp rfl)) (stp rfl))))
 (pss_cons (ps_set (i := 1) ND rfl (loc_of (Or.inl l_Lword__law_some)) (pe_op op_cat (pe_var (i := 1) (x := "_law_some") rfl (vis_of v_Lword__law_some) d__law_some e__law_some) (pe_lst (pa_cons (pe_tup (pa_cons pe_str (pa_cons (pe_callB (call_isinstE (mkd_m HH) mk er) (gl_of g_Lword_isinstance) T.b_isinstance PyProof.Rows.Boot.«isinstance» (pa_cons (pe_var (i := 0) (x := "_law_error") rfl (vis_of v_Lword__law_error) d__law_error e__law_error) (pa_cons (pe_glob (v := .ref ad.C_BadCell) (gl_of g_Lword_BadCell) T.mg_BadCell rfl (hd := d_BadCell)) pa_nil (stp rfl)) (stp rfl)) (hn := n_isinstance) (hdb := d_isinstance) (he := stp rfl) (hpl := anp rfl)) pa_nil (stp rfl)) (stp rfl))) (pa_cons (pe_tup (pa_cons pe_str (pa_cons (pe_callB (call_isinstE (mkd_m HH) mk er) (gl_of g_Lword_isinstance) T.b_isinstance PyProof.Rows.Boot.«isinstance» (pa_cons (pe_var (i := 0) (x := "_law_error") rfl (vis_of v_Lword__law_error) d__law_error e__law_error) (pa_cons (pe_glob (v := .ref ad.C_BadCharge) (gl_of g_Lword_BadCharge) T.mg_BadCharge rfl (hd := d_BadCharge)) pa_nil (stp rfl)) (stp rfl)) (hn := n_isinstance) (hdb := d_isinstance) (he := stp rfl) (hpl := anp rfl)) pa_nil (stp rfl)) (stp rfl))) pa_nil (stp rfl)) (stp rfl)))))
 (pss_cons (ps_set (i := 1) ND rfl (loc_of (Or.inl l_Lword__law_some)) (pe_op op_cat (pe_var (i := 1) (x := "_law_some") rfl (vis_of v_Lword__law_some) d__law_some e__law_some) (pe_lst (pa_cons (pe_tup (pa_cons pe_str (pa_cons (pe_callB (call_isinstE (mkd_m HH) mk er) (gl_of g_Lword_isinstance) T.b_isinstance PyProof.Rows.Boot.«isinstance» (pa_cons (pe_var (i := 0) (x := "_law_error") rfl (vis_of v_Lword__law_error) d__law_error e__law_error) (pa_cons (pe_glob (v := .ref ad.C_BadStops) (gl_of g_Lword_BadStops) T.mg_BadStops rfl (hd := d_BadStops)) pa_nil (stp rfl)) (stp rfl)) (hn := n_isinstance) (hdb := d_isinstance) (he := stp rfl) (hpl := anp rfl)) pa_nil (stp rfl)) (stp rfl))) (pa_cons (pe_tup (pa_cons pe_str (pa_cons (pe_callB (call_isinstE (mkd_m HH) mk er) (gl_of g_Lword_isinstance) T.b_isinstance PyProof.Rows.Boot.«isinstance» (pa_cons (pe_var (i := 0) (x := "_law_error") rfl (vis_of v_Lword__law_error) d__law_error e__law_error) (pa_cons (pe_glob (v := .ref ad.C_BadWay) (gl_of g_Lword_BadWay) T.mg_BadWay rfl (hd := d_BadWay)) pa_nil (stp rfl)) (stp rfl)) (hn := n_isinstance) (hdb := d_isinstance) (he := stp rfl) (hpl := anp rfl)) pa_nil (stp rfl)) (stp rfl))) pa_nil (stp rfl)) (stp rfl)))))
 (pss_cons (ps_set (i := 1) ND rfl (loc_of (Or.inl l_Lword__law_some)) (pe_op op_cat (pe_var (i := 1) (x := "_law_some") rfl (vis_of v_Lword__law_some) d__law_some e__law_some) (pe_lst (pa_cons (pe_tup (pa_cons pe_str (pa_cons (pe_callB (call_isinstE (mkd_m HH) mk er) (gl_of g_Lword_isinstance) T.b_isinstance PyProof.Rows.Boot.«isinstance» (pa_cons (pe_var (i := 0) (x := "_law_error") rfl (vis_of v_Lword__law_error) d__law_error e__law_error) (pa_cons (pe_glob (v := .ref ad.C_Empty) (gl_of g_Lword_Empty) T.mg_Empty rfl (hd := d_Empty)) pa_nil (stp rfl)) (stp rfl)) (hn := n_isinstance) (hdb := d_isinstance) (he := stp rfl) (hpl := anp rfl)) pa_nil (stp rfl)) (stp rfl))) (pa_cons (pe_tup (pa_cons pe_str (pa_cons (pe_callB (call_isinstE (mkd_m HH) mk er) (gl_of g_Lword_isinstance) T.b_isinstance PyProof.Rows.Boot.«isinstance» (pa_cons (pe_var (i := 0) (x := "_law_error") rfl (vis_of v_Lword__law_error) d__law_error e__law_error) (pa_cons (pe_glob (v := .ref ad.C_NoCarrier) (gl_of g_Lword_NoCarrier) T.mg_NoCarrier rfl (hd := d_NoCarrier)) pa_nil (stp rfl)) (stp rfl)) (hn := n_isinstance) (hdb := d_isinstance) (he := stp rfl) (hpl := anp rfl)) pa_nil (stp rfl)) (stp rfl))) pa_nil (stp rfl)) (stp rfl)))))
 (pss_cons (ps_set (i := 1) ND rfl (loc_of (Or.inl l_Lword__law_some)) (pe_op op_cat (pe_var (i := 1) (x := "_law_some") rfl (vis_of v_Lword__law_some) d__law_some e__law_some) (pe_lst (pa_cons (pe_tup (pa_cons pe_str (pa_cons (pe_callB (call_isinstE (mkd_m HH) mk er) (gl_of g_Lword_isinstance) T.b_isinstance PyProof.Rows.Boot.«isinstance» (pa_cons (pe_var (i := 0) (x := "_law_error") rfl (vis_of v_Lword__law_error) d__law_error e__law_error) (pa_cons (pe_glob (v := .ref ad.C_NoTask) (gl_of g_Lword_NoTask) T.mg_NoTask rfl (hd := d_NoTask)) pa_nil (stp rfl)) (stp rfl)) (hn := n_isinstance) (hdb := d_isinstance) (he := stp rfl) (hpl := anp rfl)) pa_nil (stp rfl)) (stp rfl))) (pa_cons (pe_tup (pa_cons pe_str (pa_cons (pe_callB (call_isinstE (mkd_m HH) mk er) (gl_of g_Lword_isinstance) T.b_isinstance PyProof.Rows.Boot.«isinstance» (pa_cons (pe_var (i := 0) (x := "_law_error") rfl (vis_of v_Lword__law_error) d__law_error e__law_error) (pa_cons (pe_glob (v := .ref ad.C_Meets) (gl_of g_Lword_Meets) T.mg_Meets rfl (hd := d_Meets)) pa_nil (stp rfl)) (stp rfl)) (hn := n_isinstance) (hdb := d_isinstance) (he := stp rfl) (hpl := anp rfl)) pa_nil (stp rfl)) (stp rfl))) pa_nil (stp rfl)) (stp rfl)))))
 (pss_cons (ps_set (i := 1) ND rfl (loc_of (Or.inl l_Lword__law_some)) (pe_op op_cat (pe_var (i := 1) (x := "_law_some") rfl (vis_of v_Lword__law_some) d__law_some e__law_some) (pe_lst (pa_cons (pe_tup (pa_cons pe_str (pa_cons (pe_callB (call_isinstE (mkd_m HH) mk er) (gl_of g_Lword_isinstance) T.b_isinstance PyProof.Rows.Boot.«isinstance» (pa_cons (pe_var (i := 0) (x := "_law_error") rfl (vis_of v_Lword__law_error) d__law_error e__law_error) (pa_cons (pe_glob (v := .ref ad.C_Taken) (gl_of g_Lword_Taken) T.mg_Taken rfl (hd := d_Taken)) pa_nil (stp rfl)) (stp rfl)) (hn := n_isinstance) (hdb := d_isinstance) (he := stp rfl) (hpl := anp rfl)) pa_nil (stp rfl)) (stp rfl))) (pa_cons (pe_tup (pa_cons pe_str (pa_cons (pe_callB (call_isinstE (mkd_m HH) mk er) (gl_of g_Lword_isinstance) T.b_isinstance PyProof.Rows.Boot.«isinstance» (pa_cons (pe_var (i := 0) (x := "_law_error") rfl (vis_of v_Lword__law_error) d__law_error e__law_error) (pa_cons (pe_glob (v := .ref ad.C_Busy) (gl_of g_Lword_Busy) T.mg_Busy rfl (hd := d_Busy)) pa_nil (stp rfl)) (stp rfl)) (hn := n_isinstance) (hdb := d_isinstance) (he := stp rfl) (hpl := anp rfl)) pa_nil (stp rfl)) (stp rfl))) pa_nil (stp rfl)) (stp rfl)))))
 (pss_cons (ps_set (i := 1) ND rfl (loc_of (Or.inl l_Lword__law_some)) (pe_op op_cat (pe_var (i := 1) (x := "_law_some") rfl (vis_of v_Lword__law_some) d__law_some e__law_some) (pe_lst (pa_cons (pe_tup (pa_cons pe_str (pa_cons (pe_callB (call_isinstE (mkd_m HH) mk er) (gl_of g_Lword_isinstance) T.b_isinstance PyProof.Rows.Boot.«isinstance» (pa_cons (pe_var (i := 0) (x := "_law_error") rfl (vis_of v_Lword__law_error) d__law_error e__law_error) (pa_cons (pe_glob (v := .ref ad.C_NoReserve) (gl_of g_Lword_NoReserve) T.mg_NoReserve rfl (hd := d_NoReserve)) pa_nil (stp rfl)) (stp rfl)) (hn := n_isinstance) (hdb := d_isinstance) (he := stp rfl) (hpl := anp rfl)) pa_nil (stp rfl)) (stp rfl))) (pa_cons (pe_tup (pa_cons pe_str (pa_cons (pe_callB (call_isinstE (mkd_m HH) mk er) (gl_of g_Lword_isinstance) T.b_isinstance PyProof.Rows.Boot.«isinstance» (pa_cons (pe_var (i := 0) (x := "_law_error") rfl (vis_of v_Lword__law_error) d__law_error e__law_error) (pa_cons (pe_glob (v := .ref ad.C_Closed) (gl_of g_Lword_Closed) T.mg_Closed rfl (hd := d_Closed)) pa_nil (stp rfl)) (stp rfl)) (hn := n_isinstance) (hdb := d_isinstance) (he := stp rfl) (hpl := anp rfl)) pa_nil (stp rfl)) (stp rfl))) pa_nil (stp rfl)) (stp rfl)))))
 (pss_cons (ps_set (i := 1) ND rfl (loc_of (Or.inl l_Lword__law_some)) (pe_op op_cat (pe_var (i := 1) (x := "_law_some") rfl (vis_of v_Lword__law_some) d__law_some e__law_some) (pe_lst (pa_cons (pe_tup (pa_cons pe_str (pa_cons (pe_callB (call_isinstE (mkd_m HH) mk er) (gl_of g_Lword_isinstance) T.b_isinstance PyProof.Rows.Boot.«isinstance» (pa_cons (pe_var (i := 0) (x := "_law_error") rfl (vis_of v_Lword__law_error) d__law_error e__law_error) (pa_cons (pe_glob (v := .ref ad.C_Jammed) (gl_of g_Lword_Jammed) T.mg_Jammed rfl (hd := d_Jammed)) pa_nil (stp rfl)) (stp rfl)) (hn := n_isinstance) (hdb := d_isinstance) (he := stp rfl) (hpl := anp rfl)) pa_nil (stp rfl)) (stp rfl))) pa_nil (stp rfl)))))
 (pss_cons (ps_comp (i := 2) (CompScope.of (osc := defScope s_Lword) (tn := ["_law_word_here", "_law_fits"]) (cn := []) (caps := []) rfl rfl (by decide +kernel) (by decide +kernel) (by decide +kernel) (by decide +kernel) rfl) CM ND rfl l_Lword__law_found (pi_list (pe_var (i := 1) (x := "_law_some") rfl (vis_of v_Lword__law_some) d__law_some e__law_some))
 (fun _ _ _ _ _ => (pg_pairC rfl CM (show (["_law_word_here", "_law_fits"] : List Str).Nodup by decide +kernel) (Or.inl rfl) (Or.inl rfl) rfl rfl)) (fun _ _ _ _ _ => (pts_one (pt_val (pv 1)))) (fun _ _ _ _ _ => (pv 0)) (hsw := by rfl))
 (pss_cons (ps_if (PW.pt (pw_or (pt_not (pt_val (pe_callB (call_isinstE (mkd_m HH) mk er) (gl_of g_Lword_isinstance) T.b_isinstance PyProof.Rows.Boot.«isinstance» (pa_cons (pe_var (i := 0) (x := "_law_error") rfl (vis_of v_Lword__law_error) d__law_error e__law_error) (pa_cons (pe_glob (v := .ref ad.C_FloorError) (gl_of g_Lword_FloorError) T.mg_FloorError rfl (hd := d_FloorError)) pa_nil (stp rfl)) (stp rfl)) (hn := n_isinstance) (hdb := d_isinstance) (he := stp rfl) (hpl := anp rfl)))) (pw_or1 (pt_not (pt_val (pe_callB (call_isinstE (mkd_m HH) mk er) (gl_of g_Lword_isinstance) T.b_isinstance PyProof.Rows.Boot.«isinstance» (pa_cons (pe_var (i := 0) (x := "_law_error") rfl (vis_of v_Lword__law_error) d__law_error e__law_error) (pa_cons (pe_bltn (v := .ty "ValueError") (gl_of g_Lword_ValueError) T.b_ValueError PyProof.Rows.Boot.«ValueError» rfl (hn := n_ValueError) (hd := d_ValueError)) pa_nil (stp rfl)) (stp rfl)) (hn := n_isinstance) (hdb := d_isinstance) (he := stp rfl) (hpl := anp rfl)))))))
 (pss_one (ps_expr (pe_bm PySem.F.plainAttrs_list PySem.F.slot_list_append PySem.F.type_list_append mt_append (pe_var (i := 2) (x := "_law_found") rfl (vis_of v_Lword__law_found) d__law_found e__law_found) (pa_cons pe_str pa_nil (stp rfl)))))
 pss_nil)
 (pss_one (ps_ret (pe_bm PySem.F.plainAttrs_str PySem.F.slot_str_join PySem.F.type_str_join mt_join pe_str (pa_cons (pe_var (i := 2) (x := "_law_found") rfl (vis_of v_Lword__law_found) d__law_found e__law_found) pa_nil (stp rfl))))))))))))))), ?_⟩
    refine tSeq_cut (fun σ H' => ∃ l, Same H H' ∧ PairsAt n 2 H' l ∧ σ = [some (.ref ea), some (.ref l), none]) (fun nx hk => ?_) ?_
    · walk_at "RD"
      refine ⟨_, rfl, _, si 0 _ rfl, by omega, fun a na => ⟨_, rfl, _, si 1 _ rfl, by omega, fun b nb => ⟨by omega, fun c nc => ?_⟩⟩⟩
      have S := ((same_new na).trans (same_new nb)).trans (same_new (o := HO.lst [V.ref a, V.ref b]) nc)
      refine hk _ _ ⟨c, S, PairsAt.add (m := 0) (ts := []) (us := [a, b]) rfl (fun i t e => by simp at e) S (fun i t e => ?_) upd_same, rfl⟩
      match i, e with
      | 0, e => cases e; exact (same_new nc) _ _ ((same_new nb) _ _ upd_same)
      | 1, e => cases e; exact (same_new nc) _ _ upd_same
      | (i + 2), e => simp at e
    rintro σ H1 ⟨l, s1, p1, rfl⟩
    refine tSeq_cut (fun σ H' => ∃ l, Same H H' ∧ PairsAt n 4 H' l ∧ σ = [some (.ref ea), some (.ref l), none]) (fun nx hk => ?_) ?_
    · walk_at "RD"
      obtain ⟨ts, t1, t2, t3⟩ := p1
      refine ⟨_, rfl, _, si 2 _ rfl, by omega, fun a na => ⟨_, rfl, _, si 3 _ rfl, by omega, fun b nb => ⟨by omega, fun c nc => ?_⟩⟩⟩
      have S := ((same_new na).trans (same_new nb)).trans (same_new (o := HO.lst [V.ref a, V.ref b]) nc)
      refine ⟨_, S _ _ t2, _, upd_same, by simp [t1]; omega, fun d nd => hk _ _ ⟨d, s1.trans (S.trans (same_new nd)), PairsAt.add (us := [a, b]) t1 t3 (S.trans (same_new nd)) (fun i t e => ?_) upd_same, rfl⟩⟩
      match i, e with
      | 0, e => cases e; exact (same_new nd) _ _ ((same_new nc) _ _ ((same_new nb) _ _ upd_same))
      | 1, e => cases e; exact (same_new nd) _ _ ((same_new nc) _ _ upd_same)
      | (i + 2), e => simp at e
    rintro σ H1 ⟨l, s1, p1, rfl⟩
    refine tSeq_cut (fun σ H' => ∃ l, Same H H' ∧ PairsAt n 6 H' l ∧ σ = [some (.ref ea), some (.ref l), none]) (fun nx hk => ?_) ?_
    · walk_at "RD"
      obtain ⟨ts, t1, t2, t3⟩ := p1
      refine ⟨_, rfl, _, si 4 _ rfl, by omega, fun a na => ⟨_, rfl, _, si 5 _ rfl, by omega, fun b nb => ⟨by omega, fun c nc => ?_⟩⟩⟩
      have S := ((same_new na).trans (same_new nb)).trans (same_new (o := HO.lst [V.ref a, V.ref b]) nc)
      refine ⟨_, S _ _ t2, _, upd_same, by simp [t1]; omega, fun d nd => hk _ _ ⟨d, s1.trans (S.trans (same_new nd)), PairsAt.add (us := [a, b]) t1 t3 (S.trans (same_new nd)) (fun i t e => ?_) upd_same, rfl⟩⟩
      match i, e with
      | 0, e => cases e; exact (same_new nd) _ _ ((same_new nc) _ _ ((same_new nb) _ _ upd_same))
      | 1, e => cases e; exact (same_new nd) _ _ ((same_new nc) _ _ upd_same)
      | (i + 2), e => simp at e
    rintro σ H1 ⟨l, s1, p1, rfl⟩
    refine tSeq_cut (fun σ H' => ∃ l, Same H H' ∧ PairsAt n 8 H' l ∧ σ = [some (.ref ea), some (.ref l), none]) (fun nx hk => ?_) ?_
    · walk_at "RD"
      obtain ⟨ts, t1, t2, t3⟩ := p1
      refine ⟨_, rfl, _, si 6 _ rfl, by omega, fun a na => ⟨_, rfl, _, si 7 _ rfl, by omega, fun b nb => ⟨by omega, fun c nc => ?_⟩⟩⟩
      have S := ((same_new na).trans (same_new nb)).trans (same_new (o := HO.lst [V.ref a, V.ref b]) nc)
      refine ⟨_, S _ _ t2, _, upd_same, by simp [t1]; omega, fun d nd => hk _ _ ⟨d, s1.trans (S.trans (same_new nd)), PairsAt.add (us := [a, b]) t1 t3 (S.trans (same_new nd)) (fun i t e => ?_) upd_same, rfl⟩⟩
      match i, e with
      | 0, e => cases e; exact (same_new nd) _ _ ((same_new nc) _ _ ((same_new nb) _ _ upd_same))
      | 1, e => cases e; exact (same_new nd) _ _ ((same_new nc) _ _ upd_same)
      | (i + 2), e => simp at e
    rintro σ H1 ⟨l, s1, p1, rfl⟩
    refine tSeq_cut (fun σ H' => ∃ l, Same H H' ∧ PairsAt n 10 H' l ∧ σ = [some (.ref ea), some (.ref l), none]) (fun nx hk => ?_) ?_
    · walk_at "RD"
      obtain ⟨ts, t1, t2, t3⟩ := p1
      refine ⟨_, rfl, _, si 8 _ rfl, by omega, fun a na => ⟨_, rfl, _, si 9 _ rfl, by omega, fun b nb => ⟨by omega, fun c nc => ?_⟩⟩⟩
      have S := ((same_new na).trans (same_new nb)).trans (same_new (o := HO.lst [V.ref a, V.ref b]) nc)
      refine ⟨_, S _ _ t2, _, upd_same, by simp [t1]; omega, fun d nd => hk _ _ ⟨d, s1.trans (S.trans (same_new nd)), PairsAt.add (us := [a, b]) t1 t3 (S.trans (same_new nd)) (fun i t e => ?_) upd_same, rfl⟩⟩
      match i, e with
      | 0, e => cases e; exact (same_new nd) _ _ ((same_new nc) _ _ ((same_new nb) _ _ upd_same))
      | 1, e => cases e; exact (same_new nd) _ _ ((same_new nc) _ _ upd_same)
      | (i + 2), e => simp at e
    rintro σ H1 ⟨l, s1, p1, rfl⟩
    refine tSeq_cut (fun σ H' => ∃ l, Same H H' ∧ PairsAt n 12 H' l ∧ σ = [some (.ref ea), some (.ref l), none]) (fun nx hk => ?_) ?_
    · walk_at "RD"
      obtain ⟨ts, t1, t2, t3⟩ := p1
      refine ⟨_, rfl, _, si 10 _ rfl, by omega, fun a na => ⟨_, rfl, _, si 11 _ rfl, by omega, fun b nb => ⟨by omega, fun c nc => ?_⟩⟩⟩
      have S := ((same_new na).trans (same_new nb)).trans (same_new (o := HO.lst [V.ref a, V.ref b]) nc)
      refine ⟨_, S _ _ t2, _, upd_same, by simp [t1]; omega, fun d nd => hk _ _ ⟨d, s1.trans (S.trans (same_new nd)), PairsAt.add (us := [a, b]) t1 t3 (S.trans (same_new nd)) (fun i t e => ?_) upd_same, rfl⟩⟩
      match i, e with
      | 0, e => cases e; exact (same_new nd) _ _ ((same_new nc) _ _ ((same_new nb) _ _ upd_same))
      | 1, e => cases e; exact (same_new nd) _ _ ((same_new nc) _ _ upd_same)
      | (i + 2), e => simp at e
    rintro σ H1 ⟨l, s1, p1, rfl⟩
    refine tSeq_cut (fun σ H' => ∃ l, Same H H' ∧ PairsAt n 14 H' l ∧ σ = [some (.ref ea), some (.ref l), none]) (fun nx hk => ?_) ?_
    · walk_at "RD"
      obtain ⟨ts, t1, t2, t3⟩ := p1
      refine ⟨_, rfl, _, si 12 _ rfl, by omega, fun a na => ⟨_, rfl, _, si 13 _ rfl, by omega, fun b nb => ⟨by omega, fun c nc => ?_⟩⟩⟩
      have S := ((same_new na).trans (same_new nb)).trans (same_new (o := HO.lst [V.ref a, V.ref b]) nc)
      refine ⟨_, S _ _ t2, _, upd_same, by simp [t1]; omega, fun d nd => hk _ _ ⟨d, s1.trans (S.trans (same_new nd)), PairsAt.add (us := [a, b]) t1 t3 (S.trans (same_new nd)) (fun i t e => ?_) upd_same, rfl⟩⟩
      match i, e with
      | 0, e => cases e; exact (same_new nd) _ _ ((same_new nc) _ _ ((same_new nb) _ _ upd_same))
      | 1, e => cases e; exact (same_new nd) _ _ ((same_new nc) _ _ upd_same)
      | (i + 2), e => simp at e
    rintro σ H1 ⟨l, s1, p1, rfl⟩
    refine tSeq_cut (fun σ H' => ∃ l, Same H H' ∧ PairsAt n 15 H' l ∧ σ = [some (.ref ea), some (.ref l), none]) (fun nx hk => ?_) ?_
    · walk_at "RD"
      obtain ⟨ts, t1, t2, t3⟩ := p1
      refine ⟨_, rfl, _, si 14 _ rfl, by omega, fun a na => ⟨by omega, fun c nc => ?_⟩⟩
      have S := (same_new na).trans (same_new (o := HO.lst [V.ref a]) nc)
      refine ⟨_, S _ _ t2, _, upd_same, by simp [t1]; omega, fun d nd => hk _ _ ⟨d, s1.trans (S.trans (same_new nd)), PairsAt.add (us := [a]) t1 t3 (S.trans (same_new nd)) (fun i t e => ?_) upd_same, rfl⟩⟩
      match i, e with
      | 0, e => cases e; exact (same_new nd) _ _ ((same_new nc) _ _ upd_same)
      | (i + 1), e => simp at e
    rintro σ H1 ⟨l, s1, p1, rfl⟩
    obtain ⟨ts, t1, t2, t3⟩ := p1
    refine tSeq_cut (fun σ H' => ∃ lq l, Same H H' ∧ H' l = some (.lst [V.str (words.getD n "")]) ∧ σ = [some (.ref ea), some (.ref lq), some (.ref l)]) (fun nx hk => ?_) ?_
    · walk_at "RD"
      have pr : ∀ t ∈ ts, ∃ i, ts[i]? = some t ∧ H1 t = some (.tup [.str (words.getD i ""), .bl (decide (i = n))]) := fun t ht => by
        obtain ⟨i, hi⟩ := List.mem_iff_getElem?.mp ht
        exact ⟨i, hi, t3 i t hi⟩
      refine ⟨⟨_, SqL.of t2⟩, comp_pairs (u := fst H1) (v := snd H1) (src_list (SqL.of t2)) (fun t ht => ?_) (fun t => tru (snd H1 t)) (fun t => fst H1 t) (fun t ht Q h => ?_) (fun t ht _ Q h => ?_) (by omega) (fun p hp => ?_)⟩
      · obtain ⟨i, _, e⟩ := pr t ht
        simp only [fst, snd, e]
        exact SqT.of e
      · obtain ⟨i, _, e⟩ := pr t ht
        walk_at "RD"
        simp only [snd, e, tru] at h ⊢
        first | exact ⟨_, rfl, h⟩ | exact h
      · walk_at "RD"
        exact h
      · have e := filt_one (p := fun t => tru (snd H1 t)) (f := fun t => fst H1 t) (g := fun i => V.str (words.getD i "")) (n := n) ts 0 (fun i t q => by
          have := t3 i t q
          simp [snd, fst, this, tru]) (Nat.zero_le _) (by omega)
        rw [e]
        exact hk _ _ ⟨_, p, s1.trans (same_new hp), upd_same, rfl⟩
    rintro σ H2 ⟨lq, l2, s2, p2, rfl⟩
    walk_at "RD"
    refine ⟨_, rfl, _, fe, ?_⟩
    rw [if_neg (by decide)]
    refine ⟨_, rfl, _, ve, ?_⟩
    rw [if_neg (by decide)]
    refine ⟨rfl, [words.getD n ""], SqL.of p2, ?_, ?_⟩
    · subst hn; decide +kernel
    · have e : Txt.join (Str.ofString "/") [words.getD n ""] = words.getD n "" := by subst hn; decide +kernel
      rw [e]
      exact hq _ s2
theorem sc_Lsaid : FnScope ["_law_lines_here", "_law_floor", "_law_error"] ["_law_lines_here"] (defScope s_Lsaid) := ⟨rfl, rfl, rfl, by decide +kernel, rfl, by decide +kernel, by decide +kernel⟩
set_option maxHeartbeats 4000000 in
theorem ok_Lsaid {fd : FuncData} (F : Fun K "_law_said" "_law_said" s_Lsaid ad.Lsaid fd) (T : Txt K mg ad) {fd_Floor_init : FuncData} (B_Floor_init : Binds K fd_Floor_init ["self", "lines"] []) (G_Floor_init : FnOk P w K mg base (CXE P w) 4 ad.Floor_init fd_Floor_init ["self", "lines"] (spInitR ad K)) {fd_Lword : FuncData} (B_Lword : Binds K fd_Lword ["_law_error"] []) (GM_Lword : ∀ {ea C : Addr} {dx : Option Addr} {ob : Obj}, MkO C dx ob → FnOkM P w K mg base ea ob 1 ad.Lword fd_Lword ["_law_error"] (spWord ad K ea C dx)) : FnOk P w K mg base CX0 6 ad.Lsaid fd ["_law_lines_here"] (spSaid K) := by
  refine F.ok sc_Lsaid (fun vs H Q E h => ?_) (fun cdv A outer s H vs Q E HR h => ?_)
  · obtain ⟨v, rfl, _⟩ := h
    rfl
  · obtain ⟨v, rfl, hq⟩ := h
    have ND := sc_Lsaid.nd
    have HU0 := HR.units0
    have HU := HR.units
    have hA := HR.hd
    have hz : (100000 : Nat) ≤ sizeLine := by rw [sizeLine_eq]; decide
    refine ⟨_, (pss_cons (ps_tryAs (i := 2) ND rfl l_Lsaid__law_error rfl rfl (gl_of g_Lsaid_FloorError) T.mg_FloorError d_FloorError (fun pins EE WE XB => (pss_one (ps_set (i := 1) ND rfl (loc_of (Or.inl l_Lsaid__law_floor)) (pe_makeX T.mk_Floor G_Floor_init (HR.mono (by decide)) (gl_of g_Lsaid_Floor) T.mg_Floor B_Floor_init .nil XB (pa_cons (pe_var (i := 0) (x := "_law_lines_here") rfl (vis_of v_Lsaid__law_lines_here) d__law_lines_here e__law_lines_here) pa_nil (stp rfl)) (hdb := d_Floor) (he := stp rfl) (hpl := anp rfl)))))
 (fun pins ea C' dx ob mk => (pss_one (ps_ret (pe_callM (GM_Lword mk) mkd_suite (HR.m.mono (by decide)) (gl_of g_Lsaid__law_word) T.mg_Lword T.k_Lword B_Lword (pa_cons (pe_var (i := 2) (x := "_law_error") rfl (vis_of v_Lsaid__law_error) d__law_error e__law_error) pa_nil (stp rfl)) (hdb := d__law_word) (he := stp rfl) (hpl := anp rfl))))))
 (pss_one (ps_ret (pe_ix ix_list (pe_lst (pa_cons pe_str (pa_cons pe_str pa_nil (stp rfl)) (stp rfl))) (pe_callTy call_int1 (gl_of g_Lsaid_int) T.b_int PyProof.Rows.Boot.«int» (pa_cons (pe_cmpR (op_neD HU) (pe_fld (pe_var (i := 1) (x := "_law_floor") rfl (vis_of v_Lsaid__law_floor) d__law_floor e__law_floor) (by rfl)) (pe_var (i := 0) (x := "_law_lines_here") rfl (vis_of v_Lsaid__law_lines_here) d__law_lines_here e__law_lines_here) (nomark _)) pa_nil (stp rfl)) (hn := n_int) (hdb := d_int) (he := stp rfl) (hpl := anp rfl)) (fun _ _ => rfl))))), ?_⟩
    walk_at "RD"
    refine ⟨fun σ cls dx H' => σ = [some v, none, none] ∧ cls = .ref ad.C_BadFloor ∧ dx = none ∧ Same H H' ∧ ((∃ a xs, v = .ref a ∧ ThL K H a xs ∧ okL xs = false) ∨ NoL K H v), fun x dx nx nd nn => ?_, ?_⟩
    · have S : Same H (upd (upd H dx (HO.own x)) x (HO.ins ad.C_Floor dx [])) := fun b o e => by
        rw [upd_ne (ne_of_none e nx), upd_ne (ne_of_none e nd)]
        exact e
      refine ⟨x, dx, v, rfl, upd_same, ?_⟩
      rcases hq with ⟨a, xs, rfl, th, hq⟩ | ⟨nl, hq⟩
      · refine .inl ⟨a, xs, rfl, th.same S, fun b H' dx' l2 fs n2 h1 h2 h3 fr => ⟨rfl, by omega, fun p np => ?_⟩, fun b H' s => ⟨rfl, rfl, rfl, S.trans s, .inl ⟨a, xs, rfl, th, b⟩⟩⟩
        have sH : Same H H' := fun b o e => fr b o (S _ _ e) (ne_of_none e nx)
        have s2 := sH.trans (same_new (o := HO.lst [V.str (Str.ofString ""), V.str (Str.ofString "other")]) np)
        have th2 := th.same s2
        obtain ⟨ds, g1, g2⟩ := th2.den
        refine ⟨_, _, _, (same_new np) _ _ h1, T.cl_Floor, T.n_Floor_lines, _, h2, _, .lst (SqL.of ((same_new np) _ _ h3)) g1, _, .lst (SqL.of th2.at_) g1, g2, g2, ?_⟩
        rw [eqv_self _ (SeqAt.canLay_of_shaped g2)]
        refine .inr ⟨_, SqL.of upd_same, _, rfl, ?_⟩
        have z := hq _ s2
        rw [if_pos b] at z
        exact z
      · exact .inr ⟨NoL.same S nl, fun H' s => ⟨rfl, rfl, rfl, S.trans s, .inr nl⟩⟩
    · rintro σ cls dx H' ⟨rfl, rfl, rfl, s, hv⟩
      refine ⟨_, rfl, T.xm_BadFloor_FloorError, fun ea _ => ⟨_, rfl, 0, rfl, rfl, says_BadFloor T, rfl, fun H2 s2 => ?_⟩⟩
      rcases hq with ⟨a, xs, rfl, th, hq⟩ | ⟨nl, hq⟩
      · have z := hq H2 (s.trans s2)
        rcases hv with ⟨a', xs', e, th', b⟩ | ⟨n, ty, nn, _⟩
        · cases e
          have e2 := th.at_.symm.trans th'.at_
          cases e2
          rw [if_neg (by rw [b]; decide)] at z
          exact z
        · exfalso
          cases ty with
          | lst e => exact nn rfl
          | frz e => exact nn rfl
          | tup e => rw [th.at_] at e; cases e
          | dK e => rw [th.at_] at e; cases e
          | dT e => rw [th.at_] at e; cases e
      · exact hq H2 (s.trans s2)
theorem sc_Lgood : FnScope ["_law_lines_here", "_law_line"] ["_law_lines_here"] (defScope s_Lgood) := ⟨rfl, rfl, rfl, by decide +kernel, rfl, by decide +kernel, by decide +kernel⟩
set_option maxHeartbeats 4000000 in
theorem ok_Lgood {fd : FuncData} (F : Fun K "_law_good" "_law_good" s_Lgood ad.Lgood fd) (T : Txt K mg ad) : FnOk P w K mg base CX0 1 ad.Lgood fd ["_law_lines_here"] (spGood K) := by
  refine F.ok sc_Lgood (fun vs H Q E h => ?_) (fun cdv A outer s H vs Q E HR h => ?_)
  · obtain ⟨v, rfl, _⟩ := h
    rfl
  · obtain ⟨v, rfl, hq⟩ := h
    have ND := sc_Lgood.nd
    have HU0 := HR.units0
    have HU := HR.units
    have hA := HR.hd
    have hz : (100000 : Nat) ≤ sizeLine := by rw [sizeLine_eq]; decide
    refine ⟨_, (pss_cons (ps_if (PW.pt (pw_or (pt_not (pt_val (pe_callB call_isinst (gl_of g_Lgood_isinstance) T.b_isinstance PyProof.Rows.Boot.«isinstance» (pa_cons (pe_var (i := 0) (x := "_law_lines_here") rfl (vis_of v_Lgood__law_lines_here) d__law_lines_here e__law_lines_here) (pa_cons (pe_bltn (v := .ty "list") (gl_of g_Lgood_list) T.b_list PyProof.Rows.Boot.«list» rfl (hn := n_list) (hd := d_list)) pa_nil (stp rfl)) (stp rfl)) (hn := n_isinstance) (hdb := d_isinstance) (he := stp rfl) (hpl := anp rfl)))) (pw_or1 (pt_not (pt_chain op_le op_le pe_int (pe_callB call_len_seq (gl_of g_Lgood_len) T.b_len PyProof.Rows.Boot.«len» (pa_cons (pe_var (i := 0) (x := "_law_lines_here") rfl (vis_of v_Lgood__law_lines_here) d__law_lines_here e__law_lines_here) pa_nil (stp rfl)) (hn := n_len) (hdb := d_len) (he := stp rfl) (hpl := anp rfl)) pe_int)))))
 (pss_one (ps_ret pe_bl))
 pss_nil)
 (pss_cons (ps_for PassesOwn.never (calm0 rfl) (pi_list (pe_var (i := 0) (x := "_law_lines_here") rfl (vis_of v_Lgood__law_lines_here) d__law_lines_here e__law_lines_here)) (pg_name (i := 1) ND rfl (loc_of (Or.inl l_Lgood__law_line)))
 (pss_cons (ps_if (PW.pt (pw_or (pt_not (pt_val (pe_callB call_isinst (gl_of g_Lgood_isinstance) T.b_isinstance PyProof.Rows.Boot.«isinstance» (pa_cons (pe_var (i := 1) (x := "_law_line") rfl (vis_of v_Lgood__law_line) d__law_line e__law_line) (pa_cons (pe_bltn (v := .ty "str") (gl_of g_Lgood_str) T.b_str PyProof.Rows.Boot.«str» rfl (hn := n_str) (hd := d_str)) pa_nil (stp rfl)) (stp rfl)) (hn := n_isinstance) (hdb := d_isinstance) (he := stp rfl) (hpl := anp rfl)))) (pw_or (pt_not (pt_chain op_le op_le pe_int (pe_callB call_len_str (gl_of g_Lgood_len) T.b_len PyProof.Rows.Boot.«len» (pa_cons (pe_var (i := 1) (x := "_law_line") rfl (vis_of v_Lgood__law_line) d__law_line e__law_line) pa_nil (stp rfl)) (hn := n_len) (hdb := d_len) (he := stp rfl) (hpl := anp rfl)) pe_int)) (pw_or1 (pt_cmpR op_ne (pe_callB call_len_str (gl_of g_Lgood_len) T.b_len PyProof.Rows.Boot.«len» (pa_cons (pe_var (i := 1) (x := "_law_line") rfl (vis_of v_Lgood__law_line) d__law_line e__law_line) pa_nil (stp rfl)) (hn := n_len) (hdb := d_len) (he := stp rfl) (hpl := anp rfl)) (pe_callB call_len_str (gl_of g_Lgood_len) T.b_len PyProof.Rows.Boot.«len» (pa_cons (pe_ix ix_list (pe_var (i := 0) (x := "_law_lines_here") rfl (vis_of v_Lgood__law_lines_here) d__law_lines_here e__law_lines_here) pe_int (fun _ _ => rfl)) pa_nil (stp rfl)) (hn := n_len) (hdb := d_len) (he := stp rfl) (hpl := anp rfl)) (nomark _))))))
 (pss_one (ps_ret pe_bl))
 pss_nil)
 (pss_one (ps_if (pt_cmpR (op_neD HU) (pe_comp (CompScope.of (osc := defScope s_Lgood) (tn := ["_law_sign"]) (cn := []) (caps := []) rfl rfl (by decide +kernel) (by decide +kernel) (by decide +kernel) (by decide +kernel) rfl) (calm0 rfl)  (pi_str (pe_var (i := 1) (x := "_law_line") rfl (vis_of v_Lgood__law_line) d__law_line e__law_line))
 (fun _ _ _ _ _ => (pg_name (i := 0) (show (["_law_sign"] : List Str).Nodup by decide +kernel) rfl (Or.inl rfl))) (fun _ _ _ _ _ => (pts_one (pt_cmpR op_notin_chr (pv 0) pe_str (by with_unfolding_all rfl)))) (fun _ _ _ _ _ => (pv 0))) (pe_lst pa_nil) (nomark _))
 (pss_one (ps_ret pe_bl))
 pss_nil))))
 (pss_one (ps_ret (pe_cmpR (op_neD HU) (pe_comp (CompScope.of (osc := defScope s_Lgood) (tn := ["_law_line"]) (cn := []) (caps := []) rfl rfl (by decide +kernel) (by decide +kernel) (by decide +kernel) (by decide +kernel) rfl) (calm0 rfl)  (pi_list (pe_var (i := 0) (x := "_law_lines_here") rfl (vis_of v_Lgood__law_lines_here) d__law_lines_here e__law_lines_here))
 (fun _ _ _ _ _ => (pg_name (i := 0) (show (["_law_line"] : List Str).Nodup by decide +kernel) rfl (Or.inl rfl))) (fun _ _ _ _ _ => (pts_one (pt_cmpR op_ne (pv 0) (pe_op op_mul_str pe_str (pe_callB call_len_str (by rfl) T.b_len PyProof.Rows.Boot.«len» (pa_cons (pv 0) pa_nil (stp rfl)) (hn := n_len) (hdb := d_len) (he := stp rfl) (hpl := anp rfl))) (nomark _)))) (fun _ _ _ _ _ => (pv 0))) (pe_lst pa_nil) (nomark _)))))), ?_⟩
    rcases hq with ⟨a, xs, rfl, th, hq⟩ | ⟨⟨nn, ty, nl, _⟩, hq⟩
    · have hL := th.at_
      have l100 := th.len
      have no : ∀ H', Same H H' → (okL xs = true → False) → Q (.bl false) H' := fun H' s f => by
        have z := hq H' s
        rw [show okL xs = false by cases e : okL xs with | false => rfl | true => exact (f e).elim] at z
        exact z
      refine tSeq_cut (fun σ H' => H' = H ∧ 1 ≤ xs.length ∧ xs.length ≤ 10 ∧ σ = [some (V.ref a), none]) (fun nx hk => ?_) ?_
      · walk_at "RD"
        refine ⟨_, .lst hL, true, rfl, ?_⟩
        rw [if_neg (by decide)]
        refine ⟨_, .inl (SqL.of hL), ?_⟩
        by_cases b : 1 ≤ ((xs.length : Nat) : Int)
        · rw [if_pos b]
          by_cases b2 : ((xs.length : Nat) : Int) ≤ 10
          · rw [if_neg (fun z => z b2)]
            exact hk _ _ ⟨rfl, by omega, by omega, rfl⟩
          · rw [if_pos b2]
            exact no _ (Same.refl _) fun e => by obtain ⟨z, r, _, h1, _⟩ := ok_inv e; omega
        · rw [if_neg b]
          exact no _ (Same.refl _) fun e => by obtain ⟨z, r, h0, h1, _⟩ := ok_inv e; rw [h0] at b; simp at b; omega
      rintro σ H1 ⟨rfl, x0, x10, rfl⟩
      obtain ⟨x, r, rfl⟩ : ∃ x r, xs = x :: r := by cases xs with | nil => simp at x0 | cons x r => exact ⟨x, r, rfl⟩
      have e0 : atI (x :: r) 0 = some x := atI_nat (j := 0) rfl
      refine tSeq_cut (fun σ H' => ∃ y z, Same H1 H' ∧ x = .str z ∧ 1 ≤ z.length ∧ z.length ≤ 10 ∧ (∀ y ∈ x :: r, rowOk z.length y = true) ∧ σ = [some (V.ref a), y]) (fun nx hk => ?_) ?_
      · walk_at "RD"
        refine ⟨⟨_, SqL.of hL⟩, for_list (K := K) (a := a) (xs := x :: r) (fun i σ H' => ∃ y, Same H1 H' ∧ (0 < i → ∃ z, x = .str z ∧ 1 ≤ z.length ∧ z.length ≤ 10 ∧ ∀ y ∈ (x :: r).take i, rowOk z.length y = true) ∧ σ = [some (V.ref a), y]) ⟨none, Same.refl _, fun z => absurd z (Nat.lt_irrefl _), rfl⟩ (fun i σ H' _ ⟨_, sm, _, _⟩ => SqL.of (sm _ _ hL)) ?_ ?_⟩
        · rintro i y σ H' hi ⟨y0, sm, ih, rfl⟩
          have hm := List.mem_of_getElem? hi
          obtain ⟨d, hd, _, _, hy⟩ := th.els y hm
          have nst : (∀ z, y ≠ .str z) → okL (x :: r) = true → False := fun f e => by
            obtain ⟨z, r', _, _, _, _, h5, _⟩ := ok_inv e
            have := h5 y hm
            cases y with
            | str z => exact f z rfl
            | _ => cases this
          refine tSeq_cut (fun σ H'' => H'' = H' ∧ (∃ z z0, y = .str z ∧ x = .str z0 ∧ StrL z ∧ 1 ≤ z.length ∧ z.length ≤ 10 ∧ z.length = z0.length) ∧ σ = [some (V.ref a), some y]) (fun nx hk => ?_) ?_
          · walk_at "RD"
            rcases hy with ⟨z, rfl, zl, zc⟩ | ⟨⟨nn, ty⟩, ns⟩
            · refine ⟨_, .str _, true, rfl, ?_⟩
              rw [if_neg (by decide)]
              have bad : ¬ (1 ≤ z.length ∧ z.length ≤ 10) → okL (x :: r) = true → False := fun f e => by
                obtain ⟨z', r', h0, _, h2, h3, h5, _⟩ := ok_inv e
                have := h5 _ hm
                simp only [rowOk, Bool.and_eq_true, decide_eq_true_eq] at this
                omega
              have x1 : ∃ z0, x = .str z0 ∧ z0.length ≤ sizeLine := by
                by_cases i0 : 0 < i
                · obtain ⟨z0, e, _, h10, _⟩ := ih i0
                  exact ⟨z0, e, by omega⟩
                · have : i = 0 := by omega
                  subst this
                  cases hi
                  exact ⟨z, rfl, by omega⟩
              obtain ⟨z0, rfl, z0l⟩ := x1
              refine ⟨z, rfl, by omega, ?_⟩
              by_cases b : 1 ≤ ((z.length : Nat) : Int)
              · rw [if_pos b]
                by_cases b2 : ((z.length : Nat) : Int) ≤ 10
                · rw [if_neg (fun z => z b2)]
                  refine ⟨z, rfl, by omega, _, SqL.of (sm _ _ hL), _, e0, z0, rfl, z0l, ?_⟩
                  by_cases e : ((z.length : Nat) : Int) = ((z0.length : Nat) : Int)
                  · rw [if_neg (fun y => y e)]
                    exact hk _ _ ⟨rfl, ⟨z, z0, rfl, rfl, ⟨zl, zc⟩, by omega, by omega, by omega⟩, rfl⟩
                  · rw [if_pos e]
                    refine no _ sm fun e' => ?_
                    obtain ⟨z', r', h0, _, h2, h3, h5, _⟩ := ok_inv e'
                    have := h5 _ hm
                    simp only [rowOk, Bool.and_eq_true, decide_eq_true_eq] at this
                    cases h0
                    omega
                · rw [if_pos b2]
                  exact no _ sm (bad (by omega))
              · rw [if_neg b]
                exact no _ sm (bad (by omega))
            · refine ⟨_, tyOf_same sm ty, _, kit_str ty ns, ?_⟩
              rw [if_pos rfl]
              exact no _ sm (nst ns)
          rintro σ H2 ⟨rfl, ⟨z, z0, rfl, rfl, zs, z1, z10, ez⟩, rfl⟩
          have lz := str_len_list z
          walk_at "RD"
          refine comp_pure src_str noSgV (fun v => v) (fun y hy Q hh => ?_) (fun y hy _ Q hh => by walk_at "RD"; exact hh) (by rw [List.length_map]; omega) ?_
          · obtain ⟨c, hc, rfl⟩ := List.mem_map.mp hy
            walk_at "RD"
            exact ⟨c, rfl, hh⟩
          · intro D nD
            have ey : ((z.cps.toList.map chr1).filter noSgV).map (fun v => v) = ((z.cps.toList.filter fun c => !chOk c).map fun c => (⟨#[c]⟩ : Str)).map V.str := by
              rw [List.map_id', List.filter_map, List.map_map]
              rfl
            rw [ey]
            have hs : SeqAt.shaped (.list (((z.cps.toList.filter fun c => !chOk c).map fun c => (⟨#[c]⟩ : Str)).map PyData.str)) = true := shaped_strs _ fun y hy => by
              obtain ⟨c, hc, rfl⟩ := List.mem_map.mp hy
              refine strOk_of fun c' hc' => ?_
              have : c' = c := by simpa using hc'
              rw [this]
              exact zs.2 c (List.mem_filter.mp hc).1
            refine ⟨Nat.zero_le _, fun p np => ?_⟩
            have S := (same_new (o := HO.lst (((z.cps.toList.filter fun c => !chOk c).map fun c => (⟨#[c]⟩ : Str)).map V.str)) nD).trans (same_new (o := HO.lst []) np)
            refine ⟨_, .lst (SqL.of ((same_new np) _ _ upd_same)) (denAll_strs _), _, .lst (SqL.of upd_same) .nil, hs, rfl, ?_⟩
            rw [eqv_nil]
            by_cases e : (z.cps.toList.filter fun c => !chOk c) = []
            · rw [if_neg (by rw [e]; decide)]
              refine ⟨sm.trans S, fun _ => ⟨by omega, by omega, fun y hy => ?_⟩, _, rfl⟩
              rw [List.take_add_one, hi] at hy
              rcases List.mem_append.mp hy with q | q
              · by_cases i0 : 0 < i
                · obtain ⟨z', e', _, _, h4⟩ := ih i0
                  cases e'
                  exact h4 y q
                · have : i = 0 := by omega
                  subst this
                  simp at q
              · have : y = V.str z := by simpa using q
                rw [this]
                simp only [rowOk, Bool.and_eq_true, decide_eq_true_eq]
                refine ⟨ez, List.all_eq_true.mpr fun c hc => ?_⟩
                have := List.filter_eq_nil_iff.mp e c hc
                simpa using this
            · have ne : (((z.cps.toList.filter fun c => !chOk c).map fun c => (⟨#[c]⟩ : Str)).map PyData.str).isEmpty = false := by
                cases hh : (z.cps.toList.filter fun c => !chOk c) with
                | nil => exact absurd hh e
                | cons c cs => rfl
              rw [ne, if_pos rfl]
              refine no _ (sm.trans S) fun e' => ?_
              obtain ⟨z', r', h0, _, h2, h3, h5, _⟩ := ok_inv e'
              have := h5 _ hm
              simp only [rowOk, Bool.and_eq_true, decide_eq_true_eq] at this
              refine e (List.filter_eq_nil_iff.mpr fun c hc => ?_)
              rw [List.all_eq_true.mp this.2 c hc]
              decide
        · rintro σ H' ⟨y, sm, ih, rfl⟩
          obtain ⟨z, e, h1, h2, h3⟩ := ih (by simp)
          rw [List.take_length] at h3
          exact hk _ _ ⟨y, z, sm, e, h1, h2, h3, rfl⟩
      rintro σ H3 ⟨y, z, s3, rfl, z1, z10, ih, rfl⟩
      have ok := ok_cons x10 z1 z10 ih
      obtain ⟨zs, ez, hz⟩ := rows_strs ih
      have hL3 := s3 _ _ hL
      have lz : zs.length ≤ 10 := by
        have := congrArg List.length ez
        rw [List.length_map] at this
        omega
      rw [ez] at hL3 ok
      have l1 : (Str.ofString "#").length = 1 := by decide +kernel
      walk_at "RD"
      refine ⟨⟨_, SqL.of hL3⟩, comp_pure (src_list (SqL.of hL3)) noHashV (fun v => v) (fun y hy Q hh => ?_) (fun y hy _ Q hh => by walk_at "RD"; exact hh) (by rw [List.length_map]; omega) ?_⟩
      · obtain ⟨u, hu, rfl⟩ := List.mem_map.mp hy
        have lu := (hz u hu).1
        walk_at "RD"
        exact ⟨by omega, mul_ok _ _ (by omega) (by rw [l1, Nat.one_mul]; omega), hh⟩
      · intro D nD
        have ey : (((zs.map V.str).filter noHashV).map fun v => v) = (zs.filter noHash).map V.str := by
          rw [List.map_id', List.filter_map]
          rfl
        rw [ey]
        have sgs : ∀ c ∈ (Str.ofString ".#+~|").cps.toList, c < 1114112 := by decide +kernel
        have hs : SeqAt.shaped (.list ((zs.filter noHash).map PyData.str)) = true := shaped_strs _ fun y hy => strOk_of fun c hc => sgs c (of_decide_eq_true (List.all_eq_true.mp (hz y (List.mem_filter.mp hy).1).2 c hc))
        refine ⟨Nat.zero_le _, fun p np => ?_⟩
        have S := (same_new (o := HO.lst ((zs.filter noHash).map V.str)) nD).trans (same_new (o := HO.lst []) np)
        refine ⟨_, .lst (SqL.of ((same_new np) _ _ upd_same)) (denAll_strs _), _, .lst (SqL.of upd_same) .nil, hs, rfl, ?_⟩
        rw [eqv_nil]
        have e : (!((zs.filter noHash).map PyData.str).isEmpty) = okL (zs.map V.str) := by
          rw [ok]
          have e2 : (zs.map V.str).any anyCell = zs.any noHash := by
            rw [List.any_map]
            congr 1
            funext z
            exact (noHash_any z).symm
          rw [e2]
          cases hh : zs.filter noHash with
          | nil =>
            symm
            rw [show (!(List.map PyData.str []).isEmpty) = false from rfl]
            refine List.any_eq_false.mpr fun z hz => ?_
            exact List.filter_eq_nil_iff.mp hh z hz
          | cons u us =>
            have := List.mem_filter.mp (show u ∈ zs.filter noHash by rw [hh]; exact List.mem_cons_self)
            rw [show (!(List.map PyData.str (u :: us)).isEmpty) = true from rfl]
            exact (List.any_eq_true.mpr ⟨u, this.1, this.2⟩).symm
        rw [e, ← ez]
        exact hq _ (s3.trans S)
    · walk_at "RD"
      refine ⟨_, ty, _, kit_list ty nl, ?_⟩
      rw [if_pos rfl]
      exact hq H (Same.refl _)
theorem sc_Lsign_of : FnScope ["_law_cell", "_law_some"] ["_law_cell"] (defScope s_Lsign_of) := ⟨rfl, rfl, rfl, by decide +kernel, rfl, by decide +kernel, by decide +kernel⟩
set_option maxHeartbeats 4000000 in
theorem ok_Lsign_of {fd : FuncData} (F : Fun K "_law_sign_of" "_law_sign_of" s_Lsign_of ad.Lsign_of fd) (T : Txt K mg ad) : FnOk P w K mg base CX0 1 ad.Lsign_of fd ["_law_cell"] (spSignOf) := by
  refine F.ok sc_Lsign_of (fun vs H Q E h => ?_) (fun cdv A outer s H vs Q E HR h => ?_)
  · obtain ⟨c, rfl, _⟩ := h
    rfl
  · obtain ⟨c, rfl, c0, hq⟩ := h
    have ND := sc_Lsign_of.nd
    have HU0 := HR.units0
    have HU := HR.units
    have hA := HR.hd
    have hz : (100000 : Nat) ≤ sizeLine := by rw [sizeLine_eq]; decide
    refine ⟨_, (pss_cons (ps_set (i := 1) ND rfl (loc_of (Or.inl l_Lsign_of__law_some)) pe_str)
 (pss_cons (ps_set (i := 1) ND rfl (loc_of (Or.inl l_Lsign_of__law_some)) (pe_op op_add_str (pe_var (i := 1) (x := "_law_some") rfl (vis_of v_Lsign_of__law_some) d__law_some e__law_some) pe_str))
 (pss_one (ps_ret (pe_ix ix_str (pe_var (i := 1) (x := "_law_some") rfl (vis_of v_Lsign_of__law_some) d__law_some e__law_some) (pe_op op_mod (pe_var (i := 0) (x := "_law_cell") rfl (vis_of v_Lsign_of__law_cell) d__law_cell e__law_cell) (pe_callB call_len_str (gl_of g_Lsign_of_len) T.b_len PyProof.Rows.Boot.«len» (pa_cons (pe_var (i := 1) (x := "_law_some") rfl (vis_of v_Lsign_of__law_some) d__law_some e__law_some) pa_nil (stp rfl)) (hn := n_len) (hdb := d_len) (he := stp rfl) (hpl := anp rfl))) (fun _ _ => rfl)))))), ?_⟩
    have l1 : (Str.ofString " !\"#$&'()*+,-./0123456789:;<=>").length = 30 := by decide +kernel
    have l2 : (Str.ofString "?@ABCXYZ[]^_`abcxyz{|}~").length = 23 := by decide +kernel
    have l3 : (Str.ofString " !\"#$&'()*+,-./0123456789:;<=>" ++ Str.ofString "?@ABCXYZ[]^_`abcxyz{|}~").length = 53 := by decide +kernel
    have l4 : ∀ c ∈ (Str.ofString " !\"#$&'()*+,-./0123456789:;<=>" ++ Str.ofString "?@ABCXYZ[]^_`abcxyz{|}~").cps.toList, c < 128 := by decide +kernel
    walk_at "RD"
    rw [l1, l2, l3]
    have e1 := Int.emod_nonneg c (show ((53 : Nat) : Int) ≠ 0 by decide)
    have e2 := Int.emod_lt_of_pos c (show (0 : Int) < ((53 : Nat) : Int) by decide)
    obtain ⟨t, ht⟩ := Int.eq_ofNat_of_zero_le e1
    rw [ht] at e2 ⊢
    have ht2 : t < (Str.ofString " !\"#$&'()*+,-./0123456789:;<=>" ++ Str.ofString "?@ABCXYZ[]^_`abcxyz{|}~").cps.toList.length := by rw [str_len_list, l3]; omega
    exact ⟨by omega, by omega, by decide, by omega, _, atI_nat (List.getElem?_eq_getElem ht2), hq _ (l4 _ (List.getElem_mem ht2))⟩
theorem sc_Lbent : FnScope ["_law_lines_here", "_law_cell", "_law_at_here", "_law_line", "_law_spot", "_law_way", "_law_sign", "_law_other", "_law_odd"] ["_law_lines_here", "_law_cell"] (defScope s_Lbent) := ⟨rfl, rfl, rfl, by decide +kernel, rfl, by decide +kernel, by decide +kernel⟩
set_option maxHeartbeats 4000000 in
theorem ok_Lbent {fd : FuncData} (F : Fun K "_law_bent" "_law_bent" s_Lbent ad.Lbent fd) (T : Txt K mg ad) {fd_Lsign_of : FuncData} (B_Lsign_of : Binds K fd_Lsign_of ["_law_cell"] []) (G_Lsign_of : FnOk P w K mg base CX0 1 ad.Lsign_of fd_Lsign_of ["_law_cell"] (spSignOf)) : FnOk P w K mg base CX0 2 ad.Lbent fd ["_law_lines_here", "_law_cell"] (spBent K) := by
  refine F.ok sc_Lbent (fun vs H Q E h => ?_) (fun cdv A outer s H vs Q E HR h => ?_)
  · obtain ⟨l, w, h, sg, c, rfl, _⟩ := h
    rfl
  · obtain ⟨l, w, h, sg, c, rfl, hL, g, c0, hq⟩ := h
    have ND := sc_Lbent.nd
    have HU0 := HR.units0
    have HU := HR.units
    have hA := HR.hd
    have hz : (100000 : Nat) ≤ sizeLine := by rw [sizeLine_eq]; decide
    refine ⟨_, (pss_cons (ps_set (i := 2) ND rfl (loc_of (Or.inl l_Lbent__law_at_here)) (pe_op op_mod (pe_op op_fdiv (pe_var (i := 1) (x := "_law_cell") rfl (vis_of v_Lbent__law_cell) d__law_cell e__law_cell) pe_int) (pe_callB call_len_seq (gl_of g_Lbent_len) T.b_len PyProof.Rows.Boot.«len» (pa_cons (pe_var (i := 0) (x := "_law_lines_here") rfl (vis_of v_Lbent__law_lines_here) d__law_lines_here e__law_lines_here) pa_nil (stp rfl)) (hn := n_len) (hdb := d_len) (he := stp rfl) (hpl := anp rfl))))
 (pss_cons (ps_set (i := 3) ND rfl (loc_of (Or.inl l_Lbent__law_line)) (pe_ix ix_list (pe_var (i := 0) (x := "_law_lines_here") rfl (vis_of v_Lbent__law_lines_here) d__law_lines_here e__law_lines_here) (pe_var (i := 2) (x := "_law_at_here") rfl (vis_of v_Lbent__law_at_here) d__law_at_here e__law_at_here) (fun _ _ => rfl)))
 (pss_cons (ps_set (i := 4) ND rfl (loc_of (Or.inr l_Lbent__law_spot)) (pe_op op_mod (pe_op op_fdiv (pe_var (i := 1) (x := "_law_cell") rfl (vis_of v_Lbent__law_cell) d__law_cell e__law_cell) pe_int) (pe_callB call_len_str (gl_of g_Lbent_len) T.b_len PyProof.Rows.Boot.«len» (pa_cons (pe_var (i := 3) (x := "_law_line") rfl (vis_of v_Lbent__law_line) d__law_line e__law_line) pa_nil (stp rfl)) (hn := n_len) (hdb := d_len) (he := stp rfl) (hpl := anp rfl))))
 (pss_cons (ps_set (i := 5) ND rfl (loc_of (Or.inl l_Lbent__law_way)) (pe_op op_mod (pe_var (i := 1) (x := "_law_cell") rfl (vis_of v_Lbent__law_cell) d__law_cell e__law_cell) pe_int))
 (pss_cons (ps_if (pt_cmpR op_lt (pe_var (i := 5) (x := "_law_way") rfl (vis_of v_Lbent__law_way) d__law_way e__law_way) pe_int (nomark _))
 (pss_cons (ps_set (i := 6) ND rfl (loc_of (Or.inl l_Lbent__law_sign)) (pe_call G_Lsign_of (HR.mono (by decide)) (gl_of g_Lbent__law_sign_of) T.mg_Lsign_of T.k_Lsign_of B_Lsign_of .nil pass0 (pa_cons (pe_op op_fdiv (pe_var (i := 1) (x := "_law_cell") rfl (vis_of v_Lbent__law_cell) d__law_cell e__law_cell) pe_int) pa_nil (stp rfl)) (hdb := d__law_sign_of) (he := stp rfl) (hpl := anp rfl)))
 (pss_cons (ps_set (i := 7) ND rfl (loc_of (Or.inl l_Lbent__law_other)) (pe_op op_add_str (pe_op op_add_str (pe_sliceS (pe_var (i := 3) (x := "_law_line") rfl (vis_of v_Lbent__law_line) d__law_line e__law_line) po_none (po_some (pe_var (i := 4) (x := "_law_spot") rfl (vis_of v_Lbent__law_spot) d__law_spot e__law_spot))) (pe_var (i := 6) (x := "_law_sign") rfl (vis_of v_Lbent__law_sign) d__law_sign e__law_sign)) (pe_sliceS (pe_var (i := 3) (x := "_law_line") rfl (vis_of v_Lbent__law_line) d__law_line e__law_line) (po_some (pe_op op_add (pe_var (i := 4) (x := "_law_spot") rfl (vis_of v_Lbent__law_spot) d__law_spot e__law_spot) pe_int)) po_none)))
 (pss_one (ps_ret (pe_op op_cat (pe_op op_cat (pe_slice sl_list (pe_var (i := 0) (x := "_law_lines_here") rfl (vis_of v_Lbent__law_lines_here) d__law_lines_here e__law_lines_here) po_none (po_some (pe_var (i := 2) (x := "_law_at_here") rfl (vis_of v_Lbent__law_at_here) d__law_at_here e__law_at_here))) (pe_lst (pa_cons (pe_var (i := 7) (x := "_law_other") rfl (vis_of v_Lbent__law_other) d__law_other e__law_other) pa_nil (stp rfl)))) (pe_slice sl_list (pe_var (i := 0) (x := "_law_lines_here") rfl (vis_of v_Lbent__law_lines_here) d__law_lines_here e__law_lines_here) (po_some (pe_op op_add (pe_var (i := 2) (x := "_law_at_here") rfl (vis_of v_Lbent__law_at_here) d__law_at_here e__law_at_here) pe_int)) po_none))))))
 pss_nil)
 (pss_cons (ps_if (pt_cmpR op_lt (pe_var (i := 5) (x := "_law_way") rfl (vis_of v_Lbent__law_way) d__law_way e__law_way) pe_int (nomark _))
 (pss_cons (ps_set (i := 8) ND rfl (loc_of (Or.inl l_Lbent__law_odd)) (pe_lst (pa_cons (pe_op op_add_str (pe_var (i := 3) (x := "_law_line") rfl (vis_of v_Lbent__law_line) d__law_line e__law_line) pe_str) (pa_cons (pe_sliceS (pe_var (i := 3) (x := "_law_line") rfl (vis_of v_Lbent__law_line) d__law_line e__law_line) (po_some pe_int) po_none) (pa_cons pe_str (pa_cons pe_non (pa_cons pe_int (pa_cons (pe_lst (pa_cons (pe_var (i := 3) (x := "_law_line") rfl (vis_of v_Lbent__law_line) d__law_line e__law_line) pa_nil (stp rfl))) (pa_cons (pe_tup (pa_cons (pe_var (i := 3) (x := "_law_line") rfl (vis_of v_Lbent__law_line) d__law_line e__law_line) pa_nil (stp rfl))) (pa_cons (pe_callTy (call_listS rfl) (gl_of g_Lbent_list) T.b_list PyProof.Rows.Boot.«list» (pa_cons (pe_var (i := 3) (x := "_law_line") rfl (vis_of v_Lbent__law_line) d__law_line e__law_line) pa_nil (stp rfl)) (hn := n_list) (hdb := d_list) (he := stp rfl) (hpl := anp rfl)) pa_nil (stp rfl)) (stp rfl)) (stp rfl)) (stp rfl)) (stp rfl)) (stp rfl)) (stp rfl)) (stp rfl))))
 (pss_one (ps_ret (pe_op op_cat (pe_op op_cat (pe_slice sl_list (pe_var (i := 0) (x := "_law_lines_here") rfl (vis_of v_Lbent__law_lines_here) d__law_lines_here e__law_lines_here) po_none (po_some (pe_var (i := 2) (x := "_law_at_here") rfl (vis_of v_Lbent__law_at_here) d__law_at_here e__law_at_here))) (pe_lst (pa_cons (pe_ix ix_list (pe_var (i := 8) (x := "_law_odd") rfl (vis_of v_Lbent__law_odd) d__law_odd e__law_odd) (pe_op op_mod (pe_op op_fdiv (pe_var (i := 1) (x := "_law_cell") rfl (vis_of v_Lbent__law_cell) d__law_cell e__law_cell) pe_int) pe_int) (fun _ _ => rfl)) pa_nil (stp rfl)))) (pe_slice sl_list (pe_var (i := 0) (x := "_law_lines_here") rfl (vis_of v_Lbent__law_lines_here) d__law_lines_here e__law_lines_here) (po_some (pe_op op_add (pe_var (i := 2) (x := "_law_at_here") rfl (vis_of v_Lbent__law_at_here) d__law_at_here e__law_at_here) pe_int)) po_none)))))
 pss_nil)
 (pss_cons (ps_if (pt_cmpR op_eq (pe_var (i := 5) (x := "_law_way") rfl (vis_of v_Lbent__law_way) d__law_way e__law_way) pe_int (nomark _))
 (pss_one (ps_ret (pe_comp (CompScope.of (osc := defScope s_Lbent) (tn := ["_law_line"]) (cn := []) (caps := []) rfl rfl (by decide +kernel) (by decide +kernel) (by decide +kernel) (by decide +kernel) rfl) (calm0 rfl)  (pi_list (pe_var (i := 0) (x := "_law_lines_here") rfl (vis_of v_Lbent__law_lines_here) d__law_lines_here e__law_lines_here))
 (fun _ _ _ _ _ => (pg_name (i := 0) (show (["_law_line"] : List Str).Nodup by decide +kernel) rfl (Or.inl rfl))) (fun _ _ _ _ _ => pts_nil) (fun _ _ _ _ _ => (pe_op op_mul_str pe_str (pe_callB call_len_str (by rfl) T.b_len PyProof.Rows.Boot.«len» (pa_cons (pv 0) pa_nil (stp rfl)) (hn := n_len) (hdb := d_len) (he := stp rfl) (hpl := anp rfl)))))))
 pss_nil)
 (pss_cons (ps_if (pt_cmpR op_eq (pe_var (i := 5) (x := "_law_way") rfl (vis_of v_Lbent__law_way) d__law_way e__law_way) pe_int (nomark _))
 (pss_one (ps_ret (pe_op op_rep (pe_lst (pa_cons (pe_op op_mul_str pe_str (pe_callB call_len_str (gl_of g_Lbent_len) T.b_len PyProof.Rows.Boot.«len» (pa_cons (pe_ix ix_list (pe_var (i := 0) (x := "_law_lines_here") rfl (vis_of v_Lbent__law_lines_here) d__law_lines_here e__law_lines_here) pe_int (fun _ _ => rfl)) pa_nil (stp rfl)) (hn := n_len) (hdb := d_len) (he := stp rfl) (hpl := anp rfl))) pa_nil (stp rfl))) (pe_ix ix_list (pe_lst (pa_cons pe_int (pa_cons pe_int (pa_cons pe_int pa_nil (stp rfl)) (stp rfl)) (stp rfl))) (pe_op op_mod (pe_op op_fdiv (pe_var (i := 1) (x := "_law_cell") rfl (vis_of v_Lbent__law_cell) d__law_cell e__law_cell) pe_int) pe_int) (fun _ _ => rfl)))))
 pss_nil)
 (pss_cons (ps_if (pt_cmpR op_eq (pe_var (i := 5) (x := "_law_way") rfl (vis_of v_Lbent__law_way) d__law_way e__law_way) pe_int (nomark _))
 (pss_one (ps_ret (pe_op op_rep (pe_lst (pa_cons (pe_op op_mul_str pe_str (pe_ix ix_list (pe_lst (pa_cons pe_int (pa_cons pe_int (pa_cons pe_int pa_nil (stp rfl)) (stp rfl)) (stp rfl))) (pe_op op_mod (pe_op op_fdiv (pe_var (i := 1) (x := "_law_cell") rfl (vis_of v_Lbent__law_cell) d__law_cell e__law_cell) pe_int) pe_int) (fun _ _ => rfl))) pa_nil (stp rfl))) (pe_callB call_len_seq (gl_of g_Lbent_len) T.b_len PyProof.Rows.Boot.«len» (pa_cons (pe_var (i := 0) (x := "_law_lines_here") rfl (vis_of v_Lbent__law_lines_here) d__law_lines_here e__law_lines_here) pa_nil (stp rfl)) (hn := n_len) (hdb := d_len) (he := stp rfl) (hpl := anp rfl)))))
 pss_nil)
 (pss_cons (ps_if (pt_cmpR op_eq (pe_var (i := 5) (x := "_law_way") rfl (vis_of v_Lbent__law_way) d__law_way e__law_way) pe_int (nomark _))
 (pss_one (ps_ret (pe_ix ix_list (pe_lst (pa_cons (pe_lst pa_nil) (pa_cons (pe_lst (pa_cons pe_str pa_nil (stp rfl))) (pa_cons (pe_lst (pa_cons pe_str (pa_cons pe_str pa_nil (stp rfl)) (stp rfl))) (pa_cons (pe_lst (pa_cons pe_str pa_nil (stp rfl))) (pa_cons (pe_lst (pa_cons pe_str pa_nil (stp rfl))) (pa_cons (pe_lst (pa_cons pe_str (pa_cons pe_str pa_nil (stp rfl)) (stp rfl))) pa_nil (stp rfl)) (stp rfl)) (stp rfl)) (stp rfl)) (stp rfl)) (stp rfl))) (pe_op op_mod (pe_op op_fdiv (pe_var (i := 1) (x := "_law_cell") rfl (vis_of v_Lbent__law_cell) d__law_cell e__law_cell) pe_int) pe_int) (fun _ _ => rfl))))
 pss_nil)
 (pss_cons (ps_if (pt_cmpR op_eq (pe_var (i := 5) (x := "_law_way") rfl (vis_of v_Lbent__law_way) d__law_way e__law_way) pe_int (nomark _))
 (pss_one (ps_ret (pe_ix ix_list (pe_lst (pa_cons (pe_callTy call_tuple_of (gl_of g_Lbent_tuple) T.b_tuple PyProof.Rows.Boot.«tuple» (pa_cons (pe_var (i := 0) (x := "_law_lines_here") rfl (vis_of v_Lbent__law_lines_here) d__law_lines_here e__law_lines_here) pa_nil (stp rfl)) (hn := n_tuple) (hdb := d_tuple) (he := stp rfl) (hpl := anp rfl)) (pa_cons pe_non (pa_cons pe_str (pa_cons pe_int (pa_cons (pe_disp (pps_cons pe_int pe_str pps_nil) rfl rfl (by intro z; cases z) (by decide)) (pa_cons pe_bl (pa_cons pe_str pa_nil (stp rfl)) (stp rfl)) (stp rfl)) (stp rfl)) (stp rfl)) (stp rfl)) (stp rfl))) (pe_op op_mod (pe_op op_fdiv (pe_var (i := 1) (x := "_law_cell") rfl (vis_of v_Lbent__law_cell) d__law_cell e__law_cell) pe_int) pe_int) (fun _ _ => rfl))))
 pss_nil)
 (pss_cons (ps_if (pt_cmpR op_eq (pe_var (i := 5) (x := "_law_way") rfl (vis_of v_Lbent__law_way) d__law_way e__law_way) pe_int (nomark _))
 (pss_one (ps_ret (pe_comp (CompScope.of (osc := defScope s_Lbent) (tn := ["_law_line"]) (cn := ["_law_spot"]) (caps := [4]) rfl rfl (by decide +kernel) (by decide +kernel) (by decide +kernel) (by decide +kernel) rfl) (calm0 rfl)  (pi_list (pe_var (i := 0) (x := "_law_lines_here") rfl (vis_of v_Lbent__law_lines_here) d__law_lines_here e__law_lines_here))
 (fun _ _ _ _ _ => (pg_name (i := 0) (show (["_law_line", "_law_spot"] : List Str).Nodup by decide +kernel) rfl (Or.inl rfl))) (fun _ _ _ _ _ => pts_nil) (fun _ _ _ _ _ => (pe_op op_add_str (pe_sliceS (pv 0) po_none (po_some (pv 1))) pe_str)))))
 pss_nil)
 (pss_cons (ps_if (pt_cmpR op_eq (pe_var (i := 5) (x := "_law_way") rfl (vis_of v_Lbent__law_way) d__law_way e__law_way) pe_int (nomark _))
 (pss_one (ps_ret (pe_op op_cat (pe_var (i := 0) (x := "_law_lines_here") rfl (vis_of v_Lbent__law_lines_here) d__law_lines_here e__law_lines_here) (pe_lst (pa_cons (pe_sliceS (pe_var (i := 3) (x := "_law_line") rfl (vis_of v_Lbent__law_line) d__law_line e__law_line) po_none (po_some (pe_op op_add pe_int (pe_op op_mod (pe_op op_fdiv (pe_var (i := 1) (x := "_law_cell") rfl (vis_of v_Lbent__law_cell) d__law_cell e__law_cell) pe_int) pe_int)))) pa_nil (stp rfl))))))
 pss_nil)
 (pss_one (ps_ret (pe_var (i := 0) (x := "_law_lines_here") rfl (vis_of v_Lbent__law_lines_here) d__law_lines_here e__law_lines_here)))))))))))))))), ?_⟩
    have w0 := g.w0
    have w1 := g.w1
    have h0 := g.h0
    have h1 := g.h1
    have len := g.len
    have lh : ((Fl.linesOf w h sg).map V.str).length = h := by rw [List.length_map, lines_len]
    refine tSeq_cut (fun σ H' => ∃ i : Nat, i < h ∧ H' = H ∧ σ = [some (V.ref l), some (V.int c), some (V.int (i : Int)), none, none, none, none, none, none]) (fun nx hk => ?_) ?_
    · walk_at "RD"
      refine ⟨⟨by decide, by decide⟩, _, .inl (SqL.of hL), ?_⟩
      rw [lh]
      have e1 := Int.emod_nonneg (c / 16) (show (h : Int) ≠ 0 by omega)
      have e2 := Int.emod_lt_of_pos (c / 16) (show 0 < (h : Int) by omega)
      exact ⟨by omega, hk _ _ ⟨(c / 16 % h).toNat, by omega, rfl, by rw [Int.toNat_of_nonneg e1]⟩⟩
    rintro σ H1 ⟨i, ih, rfl, rfl⟩
    have ei : atI ((Fl.linesOf w h sg).map V.str) (i : Int) = some (V.str (lineOf w sg i)) := atI_nat (by rw [List.getElem?_map, lines_get ih]; rfl)
    have e0 : atI ((Fl.linesOf w h sg).map V.str) 0 = some (V.str (lineOf w sg 0)) := atI_nat (j := 0) (by rw [List.getElem?_map, lines_get (by omega)]; rfl)
    have eL := line_len g ih
    have eL0 := line_len g (show 0 < h by omega)
    refine tSeq_cut (fun σ H' => H' = H1 ∧ σ = [some (V.ref l), some (V.int c), some (V.int (i : Int)), some (V.str (lineOf w sg i)), none, none, none, none, none]) (fun nx hk => ?_) ?_
    · walk_at "RD"
      exact ⟨_, SqL.of hL, _, ei, hk _ _ ⟨rfl, rfl⟩⟩
    rintro σ H ⟨rfl, rfl⟩
    refine tSeq_cut (fun σ H' => ∃ s' : Nat, s' < w ∧ H' = H ∧ σ = [some (V.ref l), some (V.int c), some (V.int (i : Int)), some (V.str (lineOf w sg i)), some (V.int (s' : Int)), none, none, none, none]) (fun nx hk => ?_) ?_
    · walk_at "RD"
      rw [eL]
      have e1 := Int.emod_nonneg (c / 160) (show (w : Int) ≠ 0 by omega)
      have e2 := Int.emod_lt_of_pos (c / 160) (show 0 < (w : Int) by omega)
      exact ⟨⟨by decide, by decide⟩, by omega, by omega, hk _ _ ⟨(c / 160 % w).toNat, by omega, rfl, by rw [Int.toNat_of_nonneg e1]⟩⟩
    rintro σ H1 ⟨s', hs', rfl, rfl⟩
    refine tSeq_cut (fun σ H' => H' = H1 ∧ σ = [some (V.ref l), some (V.int c), some (V.int (i : Int)), some (V.str (lineOf w sg i)), some (V.int (s' : Int)), some (V.int (c % 16)), none, none, none]) (fun nx hk => ?_) ?_
    · walk_at "RD"
      exact ⟨by decide, hk _ _ ⟨rfl, rfl⟩⟩
    rintro σ H ⟨rfl, rfl⟩
    obtain ⟨th, ok⟩ := lines_th (K := K) hL g
    have El := th.els
    have sL : StrL (lineOf w sg i) := ⟨by omega, fun c hc => by rcases line_ok g c hc with q | q | q | q | q <;> omega⟩
    have ld : (Str.ofString ".").length = 1 := by decide +kernel
    have sls := fun lo hi => Txt.slice_le (lineOf w sg i) lo hi
    have i1600 : 0 ≤ c / 1600 := Int.ediv_nonneg c0 (by decide)
    have cl := fun lo hi => cutV_length ((Fl.linesOf w h sg).map V.str) lo hi
    refine tSeq_cut (fun σ H' => H' = H ∧ σ = [some (V.ref l), some (V.int c), some (V.int (i : Int)), some (V.str (lineOf w sg i)), some (V.int (s' : Int)), some (V.int (c % 16)), none, none, none]) (fun nx hk => ?_) ?_
    · walk_at "RD"
      by_cases b : c % 16 < 4
      · rw [if_pos b]
        refine ⟨⟨by decide, by decide⟩, c / 1600, rfl, i1600, fun z hz => ?_⟩
        have lz : (⟨#[z]⟩ : Str).length = 1 := rfl
        have s1 := sls none (some (s' : Int))
        have s2 := sls (some ((s' : Int) + 1)) none
        have la := app_len (Txt.slice (lineOf w sg i) none (some (s' : Int))) ⟨#[z]⟩
        refine ⟨by omega, _, rfl, by omega, by omega, by omega, _, SqL.of hL, fun p np => ⟨by omega, fun q nq => ⟨_, (same_new nq) _ _ upd_same, _, upd_same, by have := cl none (some (i : Int)); simp only [List.length_cons, List.length_nil]; omega, fun r nr => ?_⟩⟩⟩
        have S := ((same_new (H := H) (o := HO.lst (cutV ((Fl.linesOf w h sg).map V.str) none (some (i : Int)))) np).trans (same_new (o := HO.lst [V.str (Txt.slice (lineOf w sg i) none (some (s' : Int)) ++ ⟨#[z]⟩ ++ Txt.slice (lineOf w sg i) (some ((s' : Int) + 1)) none)]) nq)).trans (same_new (o := HO.lst (cutV ((Fl.linesOf w h sg).map V.str) none (some (i : Int)) ++ [V.str (Txt.slice (lineOf w sg i) none (some (s' : Int)) ++ ⟨#[z]⟩ ++ Txt.slice (lineOf w sg i) (some ((s' : Int) + 1)) none)])) nr)
        have c1 := cl none (some (i : Int))
        have c2 := cl (some ((i : Int) + 1)) none
        refine ⟨_, SqL.of (S _ _ hL), fun t nt => ⟨_, (same_new nt) _ _ upd_same, _, upd_same, by simp only [List.length_append, List.length_cons, List.length_nil]; omega, fun u nu => ?_⟩⟩
        have S2 := (S.trans (same_new (o := HO.lst (cutV ((Fl.linesOf w h sg).map V.str) (some ((i : Int) + 1)) none)) nt)).trans (same_new (o := HO.lst (cutV ((Fl.linesOf w h sg).map V.str) none (some (i : Int)) ++ [V.str (Txt.slice (lineOf w sg i) none (some (s' : Int)) ++ ⟨#[z]⟩ ++ Txt.slice (lineOf w sg i) (some ((s' : Int) + 1)) none)] ++ cutV ((Fl.linesOf w h sg).map V.str) (some ((i : Int) + 1)) none)) nu)
        refine hq _ _ S2 (.inl ⟨u, _, rfl, ⟨upd_same, by simp only [List.length_append, List.length_cons, List.length_nil]; omega, fun y hy => ?_⟩⟩)
        rcases List.mem_append.mp hy with hy | hy
        · rcases List.mem_append.mp hy with hy | hy
          · exact (El _ (mem_cut hy)).same S2
          · rw [List.mem_singleton.mp hy]
            exact el_str (strL_app (strL_app (strL_slice sL) (strL_chr hz) (by omega)) (strL_slice sL) (by omega))
        · exact (El _ (mem_cut hy)).same S2
      · rw [if_neg b]
        exact hk _ _ ⟨rfl, rfl⟩
    rintro σ Hc0 ⟨rfl, rfl⟩
    refine tSeq_cut (fun σ H' => H' = Hc0 ∧ σ = [some (V.ref l), some (V.int c), some (V.int (i : Int)), some (V.str (lineOf w sg i)), some (V.int (s' : Int)), some (V.int (c % 16)), none, none, none]) (fun nx hk => ?_) ?_
    · walk_at "RD"
      by_cases b : c % 16 < 8
      · rw [if_pos b]
        refine ⟨by omega, by omega, by omega, fun p np => ⟨by omega, fun p1 n1 => ⟨by omega, fun l1 nl1 => ⟨by omega, fun p2 n2 => ?_⟩⟩⟩⟩
        have s1 := sls (some 1) none
        have S := (((same_new (H := Hc0) (o := HO.lst [V.str (lineOf w sg i)]) np).trans (same_new (o := HO.tup [V.str (lineOf w sg i)]) n1)).trans (same_new (o := HO.lst (List.map chr1 (lineOf w sg i).cps.toList)) nl1)).trans (same_new (o := HO.lst [V.str (lineOf w sg i ++ Str.ofString "."), V.str (Txt.slice (lineOf w sg i) (some 1) none), V.str (Str.ofString ""), V.non, V.int 5, V.ref p, V.ref p1, V.ref l1]) n2)
        have hp := (same_new (o := HO.lst [V.str (lineOf w sg i ++ Str.ofString "."), V.str (Txt.slice (lineOf w sg i) (some 1) none), V.str (Str.ofString ""), V.non, V.int 5, V.ref p, V.ref p1, V.ref l1]) n2) _ _ ((same_new (o := HO.lst (List.map chr1 (lineOf w sg i).cps.toList)) nl1) _ _ ((same_new (o := HO.tup [V.str (lineOf w sg i)]) n1) p _ upd_same))
        have hp1 := (same_new (o := HO.lst [V.str (lineOf w sg i ++ Str.ofString "."), V.str (Txt.slice (lineOf w sg i) (some 1) none), V.str (Str.ofString ""), V.non, V.int 5, V.ref p, V.ref p1, V.ref l1]) n2) _ _ ((same_new (o := HO.lst (List.map chr1 (lineOf w sg i).cps.toList)) nl1) p1 _ upd_same)
        have hl1 := (same_new (o := HO.lst [V.str (lineOf w sg i ++ Str.ofString "."), V.str (Txt.slice (lineOf w sg i) (some 1) none), V.str (Str.ofString ""), V.non, V.int 5, V.ref p, V.ref p1, V.ref l1]) n2) l1 _ upd_same
        have one : ∀ z ∈ [lineOf w sg i], StrL z := fun z hz => by rw [List.mem_singleton.mp hz]; exact sL
        have chs : List.map chr1 (lineOf w sg i).cps.toList = ((lineOf w sg i).cps.toList.map fun c => (⟨#[c]⟩ : Str)).map V.str := by rw [List.map_map]; rfl
        skip
        have els : ∀ y ∈ [V.str (lineOf w sg i ++ Str.ofString "."), V.str (Txt.slice (lineOf w sg i) (some 1) none), V.str (Str.ofString ""), V.non, V.int 5, V.ref p, V.ref p1, V.ref l1], Pf.El K _ y := fun y hy => by
          simp only [List.mem_cons, List.not_mem_nil, or_false] at hy
          rcases hy with rfl | rfl | rfl | rfl | rfl | rfl | rfl | rfl
          · exact el_str (strL_app sL ⟨by rw [ld]; decide, by decide +kernel⟩ (by omega))
          · exact el_str (strL_slice sL)
          · exact el_str ⟨by decide +kernel, by decide +kernel⟩
          · exact ⟨_, .non, rfl, by simp [PyData.depth], .inr ⟨⟨_, .non⟩, fun z e => by cases e⟩⟩
          · exact ⟨_, .int 5, rfl, by simp [PyData.depth], .inr ⟨⟨_, .int 5⟩, fun z e => by cases e⟩⟩
          · exact el_ref (zs := [lineOf w sg i]) one (.inl hp)
          · exact el_ref (zs := [lineOf w sg i]) one (.inr hp1)
          · exact el_ref (zs := (lineOf w sg i).cps.toList.map fun c => (⟨#[c]⟩ : Str)) (fun z hz => by
              obtain ⟨c, hc, rfl⟩ := List.mem_map.mp hz
              refine strL_chr ?_
              rcases line_ok g c hc with q | q | q | q | q <;> omega) (.inl (hl1.trans (by rw [chs])))
        refine ⟨_, SqL.of (S _ _ hL), fun p3 n3 => ⟨⟨by decide, by decide⟩, by decide, _, SqL.of ((same_new n3) _ _ upd_same), ?_⟩⟩
        have e1 := Int.emod_nonneg (c / 1600) (show (8 : Int) ≠ 0 by decide)
        have e2 := Int.emod_lt_of_pos (c / 1600) (show (0 : Int) < 8 by decide)
        obtain ⟨t, ht⟩ := Int.eq_ofNat_of_zero_le e1
        rw [ht] at e2 ⊢
        obtain ⟨y, hy⟩ : ∃ y, [V.str (lineOf w sg i ++ Str.ofString "."), V.str (Txt.slice (lineOf w sg i) (some 1) none), V.str (Str.ofString ""), V.non, V.int 5, V.ref p, V.ref p1, V.ref l1][t]? = some y := ⟨_, List.getElem?_eq_getElem (show t < 8 by omega)⟩
        have ely := els y (List.mem_of_getElem? hy)
        have c1 := cl none (some (i : Int))
        have c2 := cl (some ((i : Int) + 1)) none
        refine ⟨y, atI_nat hy, by omega, fun p4 n4 => ⟨_, (same_new n4) _ _ upd_same, _, upd_same, by simp only [List.length_cons, List.length_nil]; omega, fun p5 n5 => ?_⟩⟩
        have S2 := ((same_new (o := HO.lst (cutV ((Fl.linesOf w h sg).map V.str) none (some (i : Int)))) n3).trans (same_new (o := HO.lst [y]) n4)).trans (same_new (o := HO.lst (cutV ((Fl.linesOf w h sg).map V.str) none (some (i : Int)) ++ [y])) n5)
        refine ⟨_, SqL.of (S2 _ _ (S _ _ hL)), fun p6 n6 => ⟨_, (same_new n6) _ _ upd_same, _, upd_same, by simp only [List.length_append, List.length_cons, List.length_nil]; omega, fun p7 n7 => ?_⟩⟩
        have S3 := S2.trans ((same_new (o := HO.lst (cutV ((Fl.linesOf w h sg).map V.str) (some ((i : Int) + 1)) none)) n6).trans (same_new (o := HO.lst (cutV ((Fl.linesOf w h sg).map V.str) none (some (i : Int)) ++ [y] ++ cutV ((Fl.linesOf w h sg).map V.str) (some ((i : Int) + 1)) none)) n7))
        refine hq _ _ (S.trans S3) (.inl ⟨p7, _, rfl, ⟨upd_same, by simp only [List.length_append, List.length_cons, List.length_nil]; omega, fun v hv => ?_⟩⟩)
        rcases List.mem_append.mp hv with hv | hv
        · rcases List.mem_append.mp hv with hv | hv
          · exact (El _ (mem_cut hv)).same (S.trans S3)
          · rw [List.mem_singleton.mp hv]
            exact ely.same S3
        · exact (El _ (mem_cut hv)).same (S.trans S3)
      · rw [if_neg b]
        exact hk _ _ ⟨rfl, rfl⟩
    rintro σ Hc1 ⟨rfl, rfl⟩
    refine tSeq_cut (fun σ H' => H' = Hc1 ∧ σ = [some (V.ref l), some (V.int c), some (V.int (i : Int)), some (V.str (lineOf w sg i)), some (V.int (s' : Int)), some (V.int (c % 16)), none, none, none]) (fun nx hk => ?_) ?_
    · walk_at "RD"
      by_cases b : c % 16 = 8
      · rw [if_pos b]
        have l1 : (Str.ofString "#").length = 1 := by decide +kernel
        refine ⟨⟨_, SqL.of hL⟩, comp_pure (src_list (SqL.of hL)) (fun _ => true) mulH (fun y hy Q hh => by first | exact hh | (walk_at "RD"; exact hh)) (fun y hy _ Q hh => ?_) (by rw [lh]; omega) (fun D nD => ?_)⟩
        · obtain ⟨z, hz, rfl⟩ := List.mem_map.mp hy
          obtain ⟨j, hj, rfl⟩ := List.mem_map.mp hz
          have := line_len g (List.mem_range.mp hj)
          walk_at "RD"
          exact ⟨by omega, mul_ok _ _ (by omega) (by rw [l1, Nat.one_mul]; omega), hh⟩
        · refine hq _ _ (same_new nD) (.inl ⟨D, _, rfl, ⟨upd_same, by rw [List.length_map]; refine Nat.le_trans (List.length_filter_le _ _) ?_; rw [lh]; omega, fun y hy => ?_⟩⟩)
          obtain ⟨u, hu, rfl⟩ := List.mem_map.mp hy
          obtain ⟨z, hz, rfl⟩ := List.mem_map.mp (List.mem_filter.mp hu).1
          obtain ⟨j, hj, rfl⟩ := List.mem_map.mp hz
          have := line_len g (List.mem_range.mp hj)
          exact el_str (strL_mul ⟨by decide +kernel, by decide +kernel⟩ (by rw [l1]; omega))
      · rw [if_neg b]
        exact hk _ _ ⟨rfl, rfl⟩
    rintro σ Hc2 ⟨rfl, rfl⟩
    refine tSeq_cut (fun σ H' => H' = Hc2 ∧ σ = [some (V.ref l), some (V.int c), some (V.int (i : Int)), some (V.str (lineOf w sg i)), some (V.int (s' : Int)), some (V.int (c % 16)), none, none, none]) (fun nx hk => ?_) ?_
    · walk_at "RD"
      by_cases b : c % 16 = 9
      · rw [if_pos b]
        have tri : ∃ m : Nat, atI [V.int 11, V.int 10, V.int 12] (c / 1600 % 3) = some (V.int (m : Int)) ∧ m ≤ 12 := by
          have h : c / 1600 % 3 = 0 ∨ c / 1600 % 3 = 1 ∨ c / 1600 % 3 = 2 := by omega
          rcases h with h | h | h <;> rw [h]
          · exact ⟨11, rfl, by decide⟩
          · exact ⟨10, rfl, by decide⟩
          · exact ⟨12, rfl, by decide⟩
        obtain ⟨m, em, m12⟩ := tri
        have l1 : (Str.ofString ".").length = 1 := ld
        refine ⟨_, SqL.of hL, _, e0, _, rfl, by omega, mul_ok _ _ (by omega) (by rw [l1, Nat.one_mul]; omega), by omega, fun p np => ⟨by omega, fun p1 n1 => ⟨⟨by decide, by decide⟩, by decide, _, SqL.of upd_same, _, em, _, rfl, _, (same_new n1) _ _ upd_same, by omega, by omega, by simp only [List.length_cons, List.length_nil]; omega, fun p2 n2 => ?_⟩⟩⟩
        refine hq _ _ (((same_new np).trans (same_new n1)).trans (same_new n2)) (.inl ⟨p2, _, rfl, ⟨upd_same, by rw [len_rep]; simp only [List.length_cons, List.length_nil]; omega, fun y hy => ?_⟩⟩)
        obtain ⟨ls, hls, hy⟩ := List.mem_flatten.mp hy
        rw [(List.mem_replicate.mp hls).2] at hy
        rw [List.mem_singleton.mp hy]
        exact el_str (strL_mul ⟨by decide +kernel, by decide +kernel⟩ (by rw [l1]; omega))
      · rw [if_neg b]
        exact hk _ _ ⟨rfl, rfl⟩
    rintro σ Hc3 ⟨rfl, rfl⟩
    refine tSeq_cut (fun σ H' => H' = Hc3 ∧ σ = [some (V.ref l), some (V.int c), some (V.int (i : Int)), some (V.str (lineOf w sg i)), some (V.int (s' : Int)), some (V.int (c % 16)), none, none, none]) (fun nx hk => ?_) ?_
    · walk_at "RD"
      by_cases b : c % 16 = 10
      · rw [if_pos b]
        have tri : ∃ m : Nat, atI [V.int 11, V.int 10, V.int 12] (c / 1600 % 3) = some (V.int (m : Int)) ∧ m ≤ 12 := by
          have h : c / 1600 % 3 = 0 ∨ c / 1600 % 3 = 1 ∨ c / 1600 % 3 = 2 := by omega
          rcases h with h | h | h <;> rw [h]
          · exact ⟨11, rfl, by decide⟩
          · exact ⟨10, rfl, by decide⟩
          · exact ⟨12, rfl, by decide⟩
        obtain ⟨m, em, m12⟩ := tri
        have l1 : (Str.ofString "+").length = 1 := by decide +kernel
        refine ⟨by omega, fun p np => ⟨⟨by decide, by decide⟩, by decide, _, SqL.of upd_same, _, em, _, rfl, mul_ok _ _ (by omega) (by rw [l1, Nat.one_mul]; omega), by omega, fun p1 n1 => ⟨_, .inl (SqL.of ((same_new n1) _ _ ((same_new np) _ _ hL))), ?_⟩⟩⟩
        rw [lh]
        refine ⟨_, upd_same, by omega, by omega, by simp only [List.length_cons, List.length_nil]; omega, fun p2 n2 => ?_⟩
        refine hq _ _ (((same_new np).trans (same_new n1)).trans (same_new n2)) (.inl ⟨p2, _, rfl, ⟨upd_same, by rw [len_rep]; simp only [List.length_cons, List.length_nil]; omega, fun y hy => ?_⟩⟩)
        obtain ⟨ls, hls, hy⟩ := List.mem_flatten.mp hy
        rw [(List.mem_replicate.mp hls).2] at hy
        rw [List.mem_singleton.mp hy]
        exact el_str (strL_mul ⟨by decide +kernel, by decide +kernel⟩ (by rw [l1]; omega))
      · rw [if_neg b]
        exact hk _ _ ⟨rfl, rfl⟩
    rintro σ Hc4 ⟨rfl, rfl⟩
    refine tSeq_cut (fun σ H' => H' = Hc4 ∧ σ = [some (V.ref l), some (V.int c), some (V.int (i : Int)), some (V.str (lineOf w sg i)), some (V.int (s' : Int)), some (V.int (c % 16)), none, none, none]) (fun nx hk => ?_) ?_
    · walk_at "RD"
      by_cases b : c % 16 = 11
      · rw [if_pos b]
        refine ⟨Nat.zero_le _, fun p np => ⟨by omega, fun p1 n1 => ⟨by omega, fun p2 n2 => ⟨by omega, fun p3 n3 => ⟨by omega, fun p4 n4 => ⟨by omega, fun p5 n5 => ⟨by omega, fun p6 n6 => ⟨⟨by decide, by decide⟩, by decide, _, SqL.of upd_same, ?_⟩⟩⟩⟩⟩⟩⟩⟩
        have t1 := same_new (o := HO.lst [V.str (Str.ofString "")]) n1
        have t2 := same_new (o := HO.lst [V.str (Str.ofString ""), V.str (Str.ofString "")]) n2
        have t3 := same_new (o := HO.lst [V.str (Str.ofString ".")]) n3
        have t4 := same_new (o := HO.lst [V.str (Str.ofString "#")]) n4
        have t5 := same_new (o := HO.lst [V.str (Str.ofString "#"), V.str (Str.ofString "~")]) n5
        have t6 := same_new (o := HO.lst [V.ref p, V.ref p1, V.ref p2, V.ref p3, V.ref p4, V.ref p5]) n6
        have S := (same_new (o := HO.lst []) np).trans (t1.trans (t2.trans (t3.trans (t4.trans (t5.trans t6)))))
        have fin : ∀ (a : Addr) (zs : List Str) (H9 : Hp), H9 a = some (.lst (zs.map V.str)) → zs.length ≤ 2 → (∀ z ∈ zs, z ∈ [Str.ofString "", Str.ofString ".", Str.ofString "#", Str.ofString "~"]) → ThL K H9 a (zs.map V.str) := fun a zs H9 ha hz hm => ⟨ha, by rw [List.length_map]; omega, fun y hy => by
          obtain ⟨z, hz', rfl⟩ := List.mem_map.mp hy
          have := hm z hz'
          simp only [List.mem_cons, List.not_mem_nil, or_false] at this
          rcases this with rfl | rfl | rfl | rfl <;> exact el_str ⟨by decide +kernel, by decide +kernel⟩⟩
        have h6 : c / 1600 % 6 = 0 ∨ c / 1600 % 6 = 1 ∨ c / 1600 % 6 = 2 ∨ c / 1600 % 6 = 3 ∨ c / 1600 % 6 = 4 ∨ c / 1600 % 6 = 5 := by omega
        rcases h6 with e | e | e | e | e | e <;> rw [e]
        · exact ⟨V.ref p, rfl, hq _ _ S (.inl ⟨p, _, rfl, fin p [] _ (t6 _ _ (t5 _ _ (t4 _ _ (t3 _ _ (t2 _ _ (t1 _ _ upd_same)))))) (by decide) (by decide +kernel)⟩)⟩
        · exact ⟨V.ref p1, rfl, hq _ _ S (.inl ⟨p1, _, rfl, fin p1 [Str.ofString ""] _ (t6 _ _ (t5 _ _ (t4 _ _ (t3 _ _ (t2 _ _ upd_same))))) (by decide) (by decide +kernel)⟩)⟩
        · exact ⟨V.ref p2, rfl, hq _ _ S (.inl ⟨p2, _, rfl, fin p2 [Str.ofString "", Str.ofString ""] _ (t6 _ _ (t5 _ _ (t4 _ _ (t3 _ _ upd_same)))) (by decide) (by decide +kernel)⟩)⟩
        · exact ⟨V.ref p3, rfl, hq _ _ S (.inl ⟨p3, _, rfl, fin p3 [Str.ofString "."] _ (t6 _ _ (t5 _ _ (t4 _ _ upd_same))) (by decide) (by decide +kernel)⟩)⟩
        · exact ⟨V.ref p4, rfl, hq _ _ S (.inl ⟨p4, _, rfl, fin p4 [Str.ofString "#"] _ (t6 _ _ (t5 _ _ upd_same)) (by decide) (by decide +kernel)⟩)⟩
        · exact ⟨V.ref p5, rfl, hq _ _ S (.inl ⟨p5, _, rfl, fin p5 [Str.ofString "#", Str.ofString "~"] _ (t6 _ _ upd_same) (by decide) (by decide +kernel)⟩)⟩
      · rw [if_neg b]
        exact hk _ _ ⟨rfl, rfl⟩
    rintro σ Hc5 ⟨rfl, rfl⟩
    refine tSeq_cut (fun σ H' => H' = Hc5 ∧ σ = [some (V.ref l), some (V.int c), some (V.int (i : Int)), some (V.str (lineOf w sg i)), some (V.int (s' : Int)), some (V.int (c % 16)), none, none, none]) (fun nx hk => ?_) ?_
    · walk_at "RD"
      by_cases b : c % 16 = 12
      · rw [if_pos b]
        refine ⟨_, .inl ⟨SqL.of hL, fun l1 nl1 p np => ⟨upd_same, [(Sum.inl 0, V.str (Str.ofString ".."))], rfl, by decide, by omega, fun p1 n1 => ⟨⟨by decide, by decide⟩, by decide, _, SqL.of upd_same, ?_⟩⟩⟩⟩
        rw [upd_upd] at n1 ⊢
        have t1 := same_new (H := Hc5) (o := HO.tup ((Fl.linesOf w h sg).map V.str)) nl1
        have t2 := same_new (o := HO.dK (mergeK [] [(Sum.inl 0, V.str (Str.ofString ".."))])) np
        have t3 := same_new (o := HO.lst [V.ref l1, V.non, V.str (Str.ofString ".."), V.int 5, V.ref p, V.bl true, V.str (Str.ofString "|")]) n1
        have S := t1.trans (t2.trans t3)
        have hl1 := t3 _ _ (t2 l1 _ upd_same)
        have hp := t3 p _ upd_same
        have h7 : c / 1600 % 7 = 0 ∨ c / 1600 % 7 = 1 ∨ c / 1600 % 7 = 2 ∨ c / 1600 % 7 = 3 ∨ c / 1600 % 7 = 4 ∨ c / 1600 % 7 = 5 ∨ c / 1600 % 7 = 6 := by omega
        rcases h7 with e | e | e | e | e | e | e <;> rw [e]
        · refine ⟨V.ref l1, rfl, hq _ _ S (.inr ⟨_, .tup hl1, by decide, .inl ⟨_, .tup (SqT.of hl1) (denAll_strs _), ?_⟩⟩)⟩
          have hs : SeqAt.shaped (.list ((Fl.linesOf w h sg).map PyData.str)) = true := shaped_strs _ (fun x hx => by
            obtain ⟨j, _, rfl⟩ := List.mem_map.mp hx
            refine strOk_of fun c hc => ?_
            rcases line_ok g c hc with z | z | z | z | z <;> omega)
          exact hs
        · exact ⟨V.non, rfl, hq _ _ S (.inr ⟨_, .non, by decide, .inl ⟨_, .non, rfl⟩⟩)⟩
        · exact ⟨V.str (Str.ofString ".."), rfl, hq _ _ S (.inr ⟨_, .str _, by decide, .inl ⟨_, .str _, by decide +kernel⟩⟩)⟩
        · exact ⟨V.int 5, rfl, hq _ _ S (.inr ⟨_, .int _, by decide, .inl ⟨_, .int _, rfl⟩⟩)⟩
        · exact ⟨V.ref p, rfl, hq _ _ S (.inr ⟨_, .dK hp, by decide, .inr ⟨p, rfl, hp⟩⟩)⟩
        · exact ⟨V.bl true, rfl, hq _ _ S (.inr ⟨_, .bl _, by decide, .inl ⟨_, .bl _, rfl⟩⟩)⟩
        · exact ⟨V.str (Str.ofString "|"), rfl, hq _ _ S (.inr ⟨_, .str _, by decide, .inl ⟨_, .str _, by decide +kernel⟩⟩)⟩
      · rw [if_neg b]
        exact hk _ _ ⟨rfl, rfl⟩
    rintro σ Hc6 ⟨rfl, rfl⟩
    refine tSeq_cut (fun σ H' => H' = Hc6 ∧ σ = [some (V.ref l), some (V.int c), some (V.int (i : Int)), some (V.str (lineOf w sg i)), some (V.int (s' : Int)), some (V.int (c % 16)), none, none, none]) (fun nx hk => ?_) ?_
    · walk_at "RD"
      by_cases b : c % 16 = 13
      · rw [if_pos b]
        have l1 : (Str.ofString "~").length = 1 := by decide +kernel
        refine ⟨⟨_, SqL.of hL⟩, comp_pure (src_list (SqL.of hL)) (fun _ => true) (cutT s') (fun y hy Q hh => by first | exact hh | (walk_at "RD"; exact hh)) (fun y hy _ Q hh => ?_) (by rw [lh]; omega) (fun D nD => ?_)⟩
        · obtain ⟨z, hz, rfl⟩ := List.mem_map.mp hy
          obtain ⟨j, hj, rfl⟩ := List.mem_map.mp hz
          have := line_len g (List.mem_range.mp hj)
          have := Txt.slice_le (lineOf w sg j) none (some (s' : Int))
          walk_at "RD"
          exact ⟨by omega, by omega, hh⟩
        · refine hq _ _ (same_new nD) (.inl ⟨D, _, rfl, ⟨upd_same, by rw [List.length_map]; refine Nat.le_trans (List.length_filter_le _ _) ?_; rw [lh]; omega, fun y hy => ?_⟩⟩)
          obtain ⟨u, hu, rfl⟩ := List.mem_map.mp hy
          obtain ⟨z, hz, rfl⟩ := List.mem_map.mp (List.mem_filter.mp hu).1
          obtain ⟨j, hj, rfl⟩ := List.mem_map.mp hz
          have := line_len g (List.mem_range.mp hj)
          have := Txt.slice_le (lineOf w sg j) none (some (s' : Int))
          exact el_str (strL_app (strL_slice ⟨by omega, fun c hc => by rcases line_ok g c hc with q | q | q | q | q <;> omega⟩) ⟨by decide +kernel, by decide +kernel⟩ (by omega))
      · rw [if_neg b]
        exact hk _ _ ⟨rfl, rfl⟩
    rintro σ Hc7 ⟨rfl, rfl⟩
    refine tSeq_cut (fun σ H' => H' = Hc7 ∧ σ = [some (V.ref l), some (V.int c), some (V.int (i : Int)), some (V.str (lineOf w sg i)), some (V.int (s' : Int)), some (V.int (c % 16)), none, none, none]) (fun nx hk => ?_) ?_
    · walk_at "RD"
      by_cases b : c % 16 = 14
      · rw [if_pos b]
        refine ⟨⟨by decide, by decide⟩, by decide, by omega, by omega, fun p np => ⟨_, (same_new np) _ _ hL, _, upd_same, by rw [lh]; simp only [List.length_cons, List.length_nil]; omega, fun p1 n1 => ?_⟩⟩
        refine hq _ _ ((same_new np).trans (same_new n1)) (.inl ⟨p1, _, rfl, ⟨upd_same, by rw [List.length_append, lh]; simp only [List.length_cons, List.length_nil]; omega, fun y hy => ?_⟩⟩)
        rcases List.mem_append.mp hy with hy | hy
        · exact (El _ hy).same ((same_new np).trans (same_new n1))
        · rw [List.mem_singleton.mp hy]
          exact el_str (strL_slice sL)
      · rw [if_neg b]
        exact hk _ _ ⟨rfl, rfl⟩
    rintro σ Hc8 ⟨rfl, rfl⟩
    walk_at "RD"
    exact hq _ _ (Same.refl _) (.inl ⟨l, _, rfl, th⟩)
theorem sc_law : FnScope ["_law_script", "_law_lines_here", "_law_k", "_law_thing", "_law_kept"] ["_law_script"] (defScope s_law) := ⟨rfl, rfl, rfl, by decide +kernel, rfl, by decide +kernel, by decide +kernel⟩
set_option maxHeartbeats 4000000 in
theorem ok_law {fd : FuncData} (F : Fun K "law" "law" s_law ad.law fd) (T : Txt K mg ad) {fd_Llines : FuncData} (B_Llines : Binds K fd_Llines ["_law_script", "_law_k", "_law_most"] []) (G_Llines : FnOk P w K mg base CX0 2 ad.Llines fd_Llines ["_law_script", "_law_k", "_law_most"] (spLines K)) {fd_Lat : FuncData} (B_Lat : Binds K fd_Lat ["_law_script", "_law_k"] []) (G_Lat : FnOk P w K mg base CX0 1 ad.Lat fd_Lat ["_law_script", "_law_k"] (spAt K)) {fd_Lbent : FuncData} (B_Lbent : Binds K fd_Lbent ["_law_lines_here", "_law_cell"] []) (G_Lbent : FnOk P w K mg base CX0 2 ad.Lbent fd_Lbent ["_law_lines_here", "_law_cell"] (spBent K)) {fd_Lsaid : FuncData} (B_Lsaid : Binds K fd_Lsaid ["_law_lines_here"] []) (G_Lsaid : FnOk P w K mg base CX0 6 ad.Lsaid fd_Lsaid ["_law_lines_here"] (spSaid K)) {fd_Lgood : FuncData} (B_Lgood : Binds K fd_Lgood ["_law_lines_here"] []) (G_Lgood : FnOk P w K mg base CX0 1 ad.Lgood fd_Lgood ["_law_lines_here"] (spGood K)) : FnOk P w K mg base CX0 7 ad.law fd ["_law_script"] (spLaw K) := by
  refine F.ok sc_law (fun vs H Q E h => ?_) (fun cdv A outer s H vs Q E HR h => ?_)
  · obtain ⟨a, ns, rfl, _⟩ := h
    rfl
  · obtain ⟨a, ns, rfl, hS, hl, hq⟩ := h
    have ND := sc_law.nd
    have HU0 := HR.units0
    have HU := HR.units
    have hA := HR.hd
    have hz : (100000 : Nat) ≤ sizeLine := by rw [sizeLine_eq]; decide
    refine ⟨_, (pss_cons (ps_set (i := 1) ND rfl (loc_of (Or.inl l_law__law_lines_here)) (pe_call G_Llines (HR.mono (by decide)) (gl_of g_law__law_lines) T.mg_Llines T.k_Llines B_Llines .nil pass0 (pa_cons (pe_var (i := 0) (x := "_law_script") rfl (vis_of v_law__law_script) d__law_script e__law_script) (pa_cons pe_int (pa_cons (pe_ix ix_list (pe_lst (pa_cons pe_int (pa_cons pe_int pa_nil (stp rfl)) (stp rfl))) (pe_op op_mod (pe_call G_Lat (HR.mono (by decide)) (gl_of g_law__law_at) T.mg_Lat T.k_Lat B_Lat .nil pass0 (pa_cons (pe_var (i := 0) (x := "_law_script") rfl (vis_of v_law__law_script) d__law_script e__law_script) (pa_cons pe_int pa_nil (stp rfl)) (stp rfl)) (hdb := d__law_at) (he := stp rfl) (hpl := anp rfl)) pe_int) (fun _ _ => rfl)) pa_nil (stp rfl)) (stp rfl)) (stp rfl)) (hdb := d__law_lines) (he := stp rfl) (hpl := anp rfl)))
 (pss_cons (ps_for PassesOwn.never (calm0 rfl) (pi_range1 (gl_of g_law_range) T.b_range (pa_cons pe_int pa_nil (stp rfl)) (st1 rfl)) (pg_name (i := 2) ND rfl (loc_of (Or.inl l_law__law_k)))
 (pss_cons (ps_set (i := 3) ND rfl (loc_of (Or.inl l_law__law_thing)) (pe_call G_Lbent (HR.mono (by decide)) (gl_of g_law__law_bent) T.mg_Lbent T.k_Lbent B_Lbent .nil pass0 (pa_cons (pe_var (i := 1) (x := "_law_lines_here") rfl (vis_of v_law__law_lines_here) d__law_lines_here e__law_lines_here) (pa_cons (pe_call G_Lat (HR.mono (by decide)) (gl_of g_law__law_at) T.mg_Lat T.k_Lat B_Lat .nil pass0 (pa_cons (pe_var (i := 0) (x := "_law_script") rfl (vis_of v_law__law_script) d__law_script e__law_script) (pa_cons (pe_op op_add pe_int (pe_var (i := 2) (x := "_law_k") rfl (vis_of v_law__law_k) d__law_k e__law_k)) pa_nil (stp rfl)) (stp rfl)) (hdb := d__law_at) (he := stp rfl) (hpl := anp rfl)) pa_nil (stp rfl)) (stp rfl)) (hdb := d__law_bent) (he := stp rfl) (hpl := anp rfl)))
 (pss_cons (ps_set (i := 4) ND rfl (loc_of (Or.inl l_law__law_kept)) (pe_ifExp (pt_val (pe_callB call_isinst (gl_of g_law_isinstance) T.b_isinstance PyProof.Rows.Boot.«isinstance» (pa_cons (pe_var (i := 3) (x := "_law_thing") rfl (vis_of v_law__law_thing) d__law_thing e__law_thing) (pa_cons (pe_bltn (v := .ty "list") (gl_of g_law_list) T.b_list PyProof.Rows.Boot.«list» rfl (hn := n_list) (hd := d_list)) pa_nil (stp rfl)) (stp rfl)) (hn := n_isinstance) (hdb := d_isinstance) (he := stp rfl) (hpl := anp rfl))) (pe_callTy call_list_of (gl_of g_law_list) T.b_list PyProof.Rows.Boot.«list» (pa_cons (pe_var (i := 3) (x := "_law_thing") rfl (vis_of v_law__law_thing) d__law_thing e__law_thing) pa_nil (stp rfl)) (hn := n_list) (hdb := d_list) (he := stp rfl) (hpl := anp rfl)) (pe_var (i := 3) (x := "_law_thing") rfl (vis_of v_law__law_thing) d__law_thing e__law_thing)))
 (pss_one (ps_if (PW.pt (pw_or (pt_cmpR op_ne (pe_call G_Lsaid (HR.mono (by decide)) (gl_of g_law__law_said) T.mg_Lsaid T.k_Lsaid B_Lsaid .nil pass0 (pa_cons (pe_var (i := 3) (x := "_law_thing") rfl (vis_of v_law__law_thing) d__law_thing e__law_thing) pa_nil (stp rfl)) (hdb := d__law_said) (he := stp rfl) (hpl := anp rfl)) (pe_ix ix_list (pe_lst (pa_cons pe_str (pa_cons pe_str pa_nil (stp rfl)) (stp rfl))) (pe_callTy call_int1 (gl_of g_law_int) T.b_int PyProof.Rows.Boot.«int» (pa_cons (pe_call G_Lgood (HR.mono (by decide)) (gl_of g_law__law_good) T.mg_Lgood T.k_Lgood B_Lgood .nil pass0 (pa_cons (pe_var (i := 3) (x := "_law_thing") rfl (vis_of v_law__law_thing) d__law_thing e__law_thing) pa_nil (stp rfl)) (hdb := d__law_good) (he := stp rfl) (hpl := anp rfl)) pa_nil (stp rfl)) (hn := n_int) (hdb := d_int) (he := stp rfl) (hpl := anp rfl)) (fun _ _ => rfl)) (nomark _)) (pw_or1 (pt_cmpR (op_neA (hu65 HR)) (pe_var (i := 3) (x := "_law_thing") rfl (vis_of v_law__law_thing) d__law_thing e__law_thing) (pe_var (i := 4) (x := "_law_kept") rfl (vis_of v_law__law_kept) d__law_kept e__law_kept) (nomark _)))))
 (pss_one (ps_ret pe_bl))
 pss_nil)))))
 (pss_one (ps_ret (pe_cmpR op_eq (pe_call G_Lsaid (HR.mono (by decide)) (gl_of g_law__law_said) T.mg_Lsaid T.k_Lsaid B_Lsaid .nil pass0 (pa_cons (pe_var (i := 1) (x := "_law_lines_here") rfl (vis_of v_law__law_lines_here) d__law_lines_here e__law_lines_here) pa_nil (stp rfl)) (hdb := d__law_said) (he := stp rfl) (hpl := anp rfl)) pe_str (nomark _)))))), ?_⟩
    refine tSeq_cut (fun σ H' => ∃ (l : Addr) (w h : Nat) (sg : List Nat), Same H H' ∧ LinesAt H' l w h sg ∧ Good w h sg ∧ σ = [some (V.ref a), some (V.ref l), none, none, none]) (fun nx hk => ?_) ?_
    · walk_at "RD"
      refine ⟨by omega, fun p np => ⟨a, ns, _, rfl, (same_new np).seq hS, hl, by decide, by decide, fun r r0 r1 => ⟨_, rfl, by decide, _, SqL.of upd_same, ?_⟩⟩⟩
      have hm : ∃ m, atI [V.int 4, V.int 10] (r % 2) = some (V.int m) ∧ 1 ≤ m ∧ m ≤ 10 := by
        have h : r % 2 = 0 ∨ r % 2 = 1 := by omega
        rcases h with h | h <;> rw [h]
        · exact ⟨4, rfl, by decide, by decide⟩
        · exact ⟨10, rfl, by decide, by decide⟩
      obtain ⟨m, e, m0, m1⟩ := hm
      exact ⟨_, e, a, ns, 0, m, rfl, (same_new np).seq hS, hl, by decide, by decide, m0, m1, fun l H' w h sg nl s1 hL g => hk _ _ ⟨l, w, h, sg, (same_new np).trans s1, hL, g, rfl⟩⟩
    rintro σ H1 ⟨l, w, h, sg, s1, hL, g, rfl⟩
    refine tSeq_cut (fun σ H' => ∃ (y1 y2 y3 : Option V), Same H1 H' ∧ σ = [some (V.ref a), some (V.ref l), y1, y2, y3]) (fun nx hk => ?_) ?_
    · walk_at "RD"
      refine ⟨by decide, by decide, for_range (fun i σ H' => ∃ (y1 y2 y3 : Option V), Same H1 H' ∧ σ = [some (V.ref a), some (V.ref l), y1, y2, y3]) ⟨none, none, none, Same.refl _, rfl⟩ ?_ ?_⟩
      · rintro i σ H' hi ⟨y1, y2, y3, s2, rfl⟩
        have hi3 : i < 3 := hi
        refine tSeq_cut (fun σ H'' => ∃ v, Same H' H'' ∧ ((∃ a xs, v = .ref a ∧ ThL K H'' a xs) ∨ NoL K H'' v) ∧ σ = [some (V.ref a), some (V.ref l), some (V.int (0 + (i : Int))), some v, y3]) (fun nx hk => ?_) ?_
        · walk_at "RD"
          exact ⟨a, ns, _, rfl, (s1.trans s2).seq hS, hl, by omega, by omega, fun r r0 r1 => ⟨l, w, h, sg, r, rfl, s2 _ _ hL, g, r0, fun v H'' s hv => hk _ _ ⟨v, s, hv, rfl⟩⟩⟩
        rintro σ H2 ⟨v, s3, hv, rfl⟩
        refine tSeq_cut (fun σ H'' => ∃ v2, Same H2 H'' ∧ ((∃ b c xs, v = .ref b ∧ ThL K H'' b xs ∧ v2 = .ref c ∧ ThL K H'' c xs) ∨ (NoL K H'' v ∧ v2 = v)) ∧ σ = [some (V.ref a), some (V.ref l), some (V.int (0 + (i : Int))), some v, some v2]) (fun nx hk => ?_) ?_
        · walk_at "RD"
          rcases hv with ⟨b, xs, rfl, th⟩ | nl
          · refine ⟨_, .lst th.at_, true, rfl, ?_⟩
            rw [if_pos rfl]
            refine ⟨b, rfl, _, .inl (SqL.of th.at_), fun c nc => hk _ _ ⟨_, same_new nc, .inl ⟨b, c, xs, rfl, th.same (same_new nc), rfl, ⟨upd_same, th.len, fun x hx => (th.els x hx).same (same_new nc)⟩⟩, rfl⟩⟩
          · obtain ⟨n, ty, nn, h4⟩ := id nl
            refine ⟨_, ty, _, kit_list ty nn, ?_⟩
            rw [if_neg (by decide)]
            exact hk _ _ ⟨_, Same.refl _, .inr ⟨nl, rfl⟩, rfl⟩
        rintro σ H3 ⟨v2, s4, hv2, rfl⟩
        have sx := s2.trans (s3.trans s4)
        walk_at "RD"
        rcases hv2 with ⟨b, c, xs, rfl, th, rfl, th2⟩ | ⟨nl, rfl⟩
        · refine ⟨_, rfl, .inl ⟨b, xs, rfl, th, fun H4 s5 => ⟨by omega, fun p np => ⟨_, rfl, .inl ⟨b, xs, rfl, (th.same s5).same (same_new np), fun H5 s6 => ?_⟩⟩⟩⟩⟩
          have s7 := s5.trans ((same_new np).trans s6)
          refine .inr ⟨_, rfl, _, SqL.of (s6 _ _ upd_same), V.str (if okL xs = true then "" else "floor"), ?_, rfl, ?_⟩
          · cases okL xs <;> rfl
          · rw [if_neg (fun z => z rfl)]
            obtain ⟨ds, g1, g2⟩ := (th.same s7).den
            refine .inl ⟨_, .lst (SqL.of (s7 _ _ th.at_)) g1, _, .lst (SqL.of (s7 _ _ th2.at_)) g1, g2, g2, ?_⟩
            rw [eqv_self _ (SeqAt.canLay_of_shaped g2), if_neg (by decide)]
            exact ⟨sx.trans s7, _, rfl⟩
        · refine ⟨_, rfl, .inr ⟨nl, fun H4 s5 => ⟨by omega, fun p np => ⟨_, rfl, .inr ⟨(nl.same s5).same (same_new np), fun H5 s6 => ?_⟩⟩⟩⟩⟩
          have s7 := s5.trans ((same_new np).trans s6)
          refine .inr ⟨_, rfl, _, SqL.of (s6 _ _ upd_same), _, rfl, rfl, ?_⟩
          rw [if_neg (fun z => z rfl)]
          obtain ⟨n, ty, nn, h4⟩ := nl.same s7
          rcases h4 with ⟨d, g1, g2⟩ | ⟨b, e, h5⟩
          · refine .inl ⟨_, g1, _, g1, g2, g2, ?_⟩
            rw [eqv_self _ (SeqAt.canLay_of_shaped g2), if_neg (by decide)]
            exact ⟨sx.trans s7, _, rfl⟩
          · subst e
            have hs : SeqAt.shaped (.str "..") = true := by decide +kernel
            refine .inr ⟨b, rfl, b, rfl, _, h5, _, h5, _, fun _ => .hit (by rfl) (.str _) (.str _) hs hs .nil, ?_⟩
            rw [eqv_self _ (SeqAt.canLay_of_shaped hs), if_neg (by decide)]
            exact ⟨sx.trans s7, _, rfl⟩
      · rintro σ H' ⟨y1, y2, y3, s2, rfl⟩
        exact hk _ _ ⟨y1, y2, y3, s2, rfl⟩
    rintro σ H2 ⟨y1, y2, y3, s2, rfl⟩
    walk_at "RD"
    obtain ⟨th, ok⟩ := lines_th (K := K) (s2 _ _ hL) g
    refine ⟨_, rfl, .inl ⟨l, _, rfl, th, fun H3 s3 => ⟨rfl, ?_⟩⟩⟩
    rw [if_pos ok]
    exact hq _
end

set_option maxHeartbeats 4000000 in
theorem all_mk {l : PySem.W.OpenLaw} {w : World} {K : PySem.W.Frag} {h : Heap} {mg : Str → Option Value} {fa : Addr} (X : K.In h) (G : h.Ns mainGlobals mg) (hfa : mg "law" = some (.ref fa))
    {C_Floor : Addr}
    {C_BadFloor : Addr}
    {C_FloorError : Addr}
    {C_BadKind : Addr}
    {C_BadCell : Addr}
    {C_BadCharge : Addr}
    {C_BadStops : Addr}
    {C_BadWay : Addr}
    {C_Empty : Addr}
    {C_NoCarrier : Addr}
    {C_NoTask : Addr}
    {C_Meets : Addr}
    {C_Taken : Addr}
    {C_Busy : Addr}
    {C_NoReserve : Addr}
    {C_Closed : Addr}
    {C_Jammed : Addr}
    {f_is_whole : Addr} {od_is_whole an_is_whole : Option Addr} {sl_is_whole : Array (Option Value)} {oc_is_whole kV_is_whole dc_is_whole pm_is_whole cd_is_whole ct_is_whole : Value}
    {f_is_among : Addr} {od_is_among an_is_among : Option Addr} {sl_is_among : Array (Option Value)} {oc_is_among kV_is_among dc_is_among pm_is_among cd_is_among ct_is_among : Value}
    {f_check_row : Addr} {od_check_row an_check_row : Option Addr} {sl_check_row : Array (Option Value)} {oc_check_row kV_check_row dc_check_row pm_check_row cd_check_row ct_check_row : Value}
    {f_check_floor : Addr} {od_check_floor an_check_floor : Option Addr} {sl_check_floor : Array (Option Value)} {oc_check_floor kV_check_floor dc_check_floor pm_check_floor cd_check_floor ct_check_floor : Value}
    {f_Floor_init : Addr} {od_Floor_init an_Floor_init : Option Addr} {sl_Floor_init : Array (Option Value)} {oc_Floor_init kV_Floor_init dc_Floor_init pm_Floor_init cd_Floor_init ct_Floor_init : Value}
    {f_Lat : Addr} {od_Lat an_Lat : Option Addr} {sl_Lat : Array (Option Value)} {oc_Lat kV_Lat dc_Lat pm_Lat cd_Lat ct_Lat : Value}
    {f_Lmixed : Addr} {od_Lmixed an_Lmixed : Option Addr} {sl_Lmixed : Array (Option Value)} {oc_Lmixed kV_Lmixed dc_Lmixed pm_Lmixed cd_Lmixed ct_Lmixed : Value}
    {f_Llines : Addr} {od_Llines an_Llines : Option Addr} {sl_Llines : Array (Option Value)} {oc_Llines kV_Llines dc_Llines pm_Llines cd_Llines ct_Llines : Value}
    {f_Lword : Addr} {od_Lword an_Lword : Option Addr} {sl_Lword : Array (Option Value)} {oc_Lword kV_Lword dc_Lword pm_Lword cd_Lword ct_Lword : Value}
    {f_Lsaid : Addr} {od_Lsaid an_Lsaid : Option Addr} {sl_Lsaid : Array (Option Value)} {oc_Lsaid kV_Lsaid dc_Lsaid pm_Lsaid cd_Lsaid ct_Lsaid : Value}
    {f_Lgood : Addr} {od_Lgood an_Lgood : Option Addr} {sl_Lgood : Array (Option Value)} {oc_Lgood kV_Lgood dc_Lgood pm_Lgood cd_Lgood ct_Lgood : Value}
    {f_Lsign_of : Addr} {od_Lsign_of an_Lsign_of : Option Addr} {sl_Lsign_of : Array (Option Value)} {oc_Lsign_of kV_Lsign_of dc_Lsign_of pm_Lsign_of cd_Lsign_of ct_Lsign_of : Value}
    {f_Lbent : Addr} {od_Lbent an_Lbent : Option Addr} {sl_Lbent : Array (Option Value)} {oc_Lbent kV_Lbent dc_Lbent pm_Lbent cd_Lbent ct_Lbent : Value}
    {f_law : Addr} {od_law an_law : Option Addr} {sl_law : Array (Option Value)} {oc_law kV_law dc_law pm_law cd_law ct_law : Value}
    {t_WALL : Tok}
    {t_SIGNS : Tok}
    {t_MOST_ROWS : Tok}
    {t_MOST_SIGNS : Tok}
    (aC_Floor : PySem.W.nsIn K mainGlobals "Floor" = some (some (.ref C_Floor)))
    (pg_Floor : PySem.W.plainGet K C_Floor Str.empty = true) (hd_Floor : PySem.W.hasDictIn K C_Floor = true) (po_Floor : PySem.W.plainOver K C_Floor = true) (sa_Floor : PySem.W.findIn K (.ref C_Floor) "__setattr__" = some (some (.builtin "object.__setattr__"))) (kc_Floor : PySem.W.keepIn K (.ref C_Floor) = true)
    (mk_Floor : PySem.W.makesIn K C_Floor = true)
    (n_Floor_wide : PySem.W.findIn K (.ref C_Floor) "wide" = some none)
    (n_Floor_high : PySem.W.findIn K (.ref C_Floor) "high" = some none)
    (n_Floor_lines : PySem.W.findIn K (.ref C_Floor) "lines" = some none)
    (n_Floor_signs : PySem.W.findIn K (.ref C_Floor) "signs" = some none)
    (aC_BadFloor : PySem.W.nsIn K mainGlobals "BadFloor" = some (some (.ref C_BadFloor))) (er_BadFloor : PySem.W.excIn K C_BadFloor [.type "ValueError", .type "Exception", .type "BaseException", .type "object"] "ValueError.__new__" = true)
    (aC_FloorError : PySem.W.nsIn K mainGlobals "FloorError" = some (some (.ref C_FloorError)))
    (aC_BadKind : PySem.W.nsIn K mainGlobals "BadKind" = some (some (.ref C_BadKind)))
    (aC_BadCell : PySem.W.nsIn K mainGlobals "BadCell" = some (some (.ref C_BadCell)))
    (aC_BadCharge : PySem.W.nsIn K mainGlobals "BadCharge" = some (some (.ref C_BadCharge)))
    (aC_BadStops : PySem.W.nsIn K mainGlobals "BadStops" = some (some (.ref C_BadStops)))
    (aC_BadWay : PySem.W.nsIn K mainGlobals "BadWay" = some (some (.ref C_BadWay)))
    (aC_Empty : PySem.W.nsIn K mainGlobals "Empty" = some (some (.ref C_Empty)))
    (aC_NoCarrier : PySem.W.nsIn K mainGlobals "NoCarrier" = some (some (.ref C_NoCarrier)))
    (aC_NoTask : PySem.W.nsIn K mainGlobals "NoTask" = some (some (.ref C_NoTask)))
    (aC_Meets : PySem.W.nsIn K mainGlobals "Meets" = some (some (.ref C_Meets)))
    (aC_Taken : PySem.W.nsIn K mainGlobals "Taken" = some (some (.ref C_Taken)))
    (aC_Busy : PySem.W.nsIn K mainGlobals "Busy" = some (some (.ref C_Busy)))
    (aC_NoReserve : PySem.W.nsIn K mainGlobals "NoReserve" = some (some (.ref C_NoReserve)))
    (aC_Closed : PySem.W.nsIn K mainGlobals "Closed" = some (some (.ref C_Closed)))
    (aC_Jammed : PySem.W.nsIn K mainGlobals "Jammed" = some (some (.ref C_Jammed)))
    (xm_BadFloor_FloorError : PySem.W.exmOne K (.ref C_BadFloor) (.ref C_FloorError) = some true)
    (is_BadFloor_BadFloor : PySem.W.kitOne K (.ref C_BadFloor) (.ref C_BadFloor) = some true)
    (is_BadFloor_BadKind : PySem.W.kitOne K (.ref C_BadFloor) (.ref C_BadKind) = some false)
    (is_BadFloor_BadCell : PySem.W.kitOne K (.ref C_BadFloor) (.ref C_BadCell) = some false)
    (is_BadFloor_BadCharge : PySem.W.kitOne K (.ref C_BadFloor) (.ref C_BadCharge) = some false)
    (is_BadFloor_BadStops : PySem.W.kitOne K (.ref C_BadFloor) (.ref C_BadStops) = some false)
    (is_BadFloor_BadWay : PySem.W.kitOne K (.ref C_BadFloor) (.ref C_BadWay) = some false)
    (is_BadFloor_Empty : PySem.W.kitOne K (.ref C_BadFloor) (.ref C_Empty) = some false)
    (is_BadFloor_NoCarrier : PySem.W.kitOne K (.ref C_BadFloor) (.ref C_NoCarrier) = some false)
    (is_BadFloor_NoTask : PySem.W.kitOne K (.ref C_BadFloor) (.ref C_NoTask) = some false)
    (is_BadFloor_Meets : PySem.W.kitOne K (.ref C_BadFloor) (.ref C_Meets) = some false)
    (is_BadFloor_Taken : PySem.W.kitOne K (.ref C_BadFloor) (.ref C_Taken) = some false)
    (is_BadFloor_Busy : PySem.W.kitOne K (.ref C_BadFloor) (.ref C_Busy) = some false)
    (is_BadFloor_NoReserve : PySem.W.kitOne K (.ref C_BadFloor) (.ref C_NoReserve) = some false)
    (is_BadFloor_Closed : PySem.W.kitOne K (.ref C_BadFloor) (.ref C_Closed) = some false)
    (is_BadFloor_Jammed : PySem.W.kitOne K (.ref C_BadFloor) (.ref C_Jammed) = some false)
    (is_BadFloor_FloorError : PySem.W.kitOne K (.ref C_BadFloor) (.ref C_FloorError) = some true)
    (is_BadFloor_ValueError : PySem.W.kitOne K (.ref C_BadFloor) (.type "ValueError") = some true)
    (ga_BadFloor : PySem.W.findIn K (.ref C_BadFloor) "__getattribute__" = some (some (.builtin "BaseException.__getattribute__")))
    (gn_BadFloor : PySem.W.findIn K (.ref C_BadFloor) "__getattr__" = some none)
    (bx_BadFloor : PySem.W.mroIn K C_BadFloor (.type "BaseException") = some true)
    (cl_BadFloor : (PySem.W.clsIn K C_BadFloor).isSome = true)
    (ca_BadFloor : PySem.W.findIn K (.ref C_BadFloor) "__class__" = some (some (.builtin "object.__class__")))
    (cm_BadFloor : PySem.W.mroIn K C_BadFloor (.type "object") = some true)
    (cgx : PySem.W.specialIn K (.builtin "object.__class__") "__get__" = some (some (.builtin "getset_descriptor.__get__")))
    (ctx : PySem.W.takesIn K (.builtin "object.__class__") = some true)
    (a_is_whole : PySem.W.nsIn K mainGlobals "is_whole" = some (some (.ref f_is_whole)))
    (l_is_whole : K.lookup f_is_whole = some ⟨oc_is_whole, od_is_whole, .func (PySem.W.fnOf "is_whole" "is_whole" (defArgs s_is_whole) (defBody s_is_whole) (defScope s_is_whole) .none kV_is_whole dc_is_whole pm_is_whole an_is_whole cd_is_whole ct_is_whole), sl_is_whole⟩) (c_is_whole : PySem.W.codeIn K cd_is_whole "is_whole" = true) (k_is_whole : PySem.W.keepIn K (.ref f_is_whole) = true)
    (a_is_among : PySem.W.nsIn K mainGlobals "is_among" = some (some (.ref f_is_among)))
    (l_is_among : K.lookup f_is_among = some ⟨oc_is_among, od_is_among, .func (PySem.W.fnOf "is_among" "is_among" (defArgs s_is_among) (defBody s_is_among) (defScope s_is_among) .none kV_is_among dc_is_among pm_is_among an_is_among cd_is_among ct_is_among), sl_is_among⟩) (c_is_among : PySem.W.codeIn K cd_is_among "is_among" = true) (k_is_among : PySem.W.keepIn K (.ref f_is_among) = true)
    (a_check_row : PySem.W.nsIn K mainGlobals "check_row" = some (some (.ref f_check_row)))
    (l_check_row : K.lookup f_check_row = some ⟨oc_check_row, od_check_row, .func (PySem.W.fnOf "check_row" "check_row" (defArgs s_check_row) (defBody s_check_row) (defScope s_check_row) .none kV_check_row dc_check_row pm_check_row an_check_row cd_check_row ct_check_row), sl_check_row⟩) (c_check_row : PySem.W.codeIn K cd_check_row "check_row" = true) (k_check_row : PySem.W.keepIn K (.ref f_check_row) = true)
    (a_check_floor : PySem.W.nsIn K mainGlobals "check_floor" = some (some (.ref f_check_floor)))
    (l_check_floor : K.lookup f_check_floor = some ⟨oc_check_floor, od_check_floor, .func (PySem.W.fnOf "check_floor" "check_floor" (defArgs s_check_floor) (defBody s_check_floor) (defScope s_check_floor) .none kV_check_floor dc_check_floor pm_check_floor an_check_floor cd_check_floor ct_check_floor), sl_check_floor⟩) (c_check_floor : PySem.W.codeIn K cd_check_floor "check_floor" = true) (k_check_floor : PySem.W.keepIn K (.ref f_check_floor) = true)
    (a_Floor_init : PySem.W.findIn K (.ref C_Floor) "__init__" = some (some (.ref f_Floor_init))) (i_Floor_init : PySem.W.isFn K (.ref f_Floor_init) = true)
    (l_Floor_init : K.lookup f_Floor_init = some ⟨oc_Floor_init, od_Floor_init, .func (PySem.W.fnOf "__init__" "Floor.__init__" (defArgs s_Floor_init) (defBody s_Floor_init) (defScope s_Floor_init) .none kV_Floor_init dc_Floor_init pm_Floor_init an_Floor_init cd_Floor_init ct_Floor_init), sl_Floor_init⟩) (c_Floor_init : PySem.W.codeIn K cd_Floor_init "Floor.__init__" = true) (k_Floor_init : PySem.W.keepIn K (.ref f_Floor_init) = true)
    (a_Lat : PySem.W.nsIn K mainGlobals "_law_at" = some (some (.ref f_Lat)))
    (l_Lat : K.lookup f_Lat = some ⟨oc_Lat, od_Lat, .func (PySem.W.fnOf "_law_at" "_law_at" (defArgs s_Lat) (defBody s_Lat) (defScope s_Lat) .none kV_Lat dc_Lat pm_Lat an_Lat cd_Lat ct_Lat), sl_Lat⟩) (c_Lat : PySem.W.codeIn K cd_Lat "_law_at" = true) (k_Lat : PySem.W.keepIn K (.ref f_Lat) = true)
    (a_Lmixed : PySem.W.nsIn K mainGlobals "_law_mixed" = some (some (.ref f_Lmixed)))
    (l_Lmixed : K.lookup f_Lmixed = some ⟨oc_Lmixed, od_Lmixed, .func (PySem.W.fnOf "_law_mixed" "_law_mixed" (defArgs s_Lmixed) (defBody s_Lmixed) (defScope s_Lmixed) .none kV_Lmixed dc_Lmixed pm_Lmixed an_Lmixed cd_Lmixed ct_Lmixed), sl_Lmixed⟩) (c_Lmixed : PySem.W.codeIn K cd_Lmixed "_law_mixed" = true) (k_Lmixed : PySem.W.keepIn K (.ref f_Lmixed) = true)
    (a_Llines : PySem.W.nsIn K mainGlobals "_law_lines" = some (some (.ref f_Llines)))
    (l_Llines : K.lookup f_Llines = some ⟨oc_Llines, od_Llines, .func (PySem.W.fnOf "_law_lines" "_law_lines" (defArgs s_Llines) (defBody s_Llines) (defScope s_Llines) .none kV_Llines dc_Llines pm_Llines an_Llines cd_Llines ct_Llines), sl_Llines⟩) (c_Llines : PySem.W.codeIn K cd_Llines "_law_lines" = true) (k_Llines : PySem.W.keepIn K (.ref f_Llines) = true)
    (a_Lword : PySem.W.nsIn K mainGlobals "_law_word" = some (some (.ref f_Lword)))
    (l_Lword : K.lookup f_Lword = some ⟨oc_Lword, od_Lword, .func (PySem.W.fnOf "_law_word" "_law_word" (defArgs s_Lword) (defBody s_Lword) (defScope s_Lword) .none kV_Lword dc_Lword pm_Lword an_Lword cd_Lword ct_Lword), sl_Lword⟩) (c_Lword : PySem.W.codeIn K cd_Lword "_law_word" = true) (k_Lword : PySem.W.keepIn K (.ref f_Lword) = true)
    (a_Lsaid : PySem.W.nsIn K mainGlobals "_law_said" = some (some (.ref f_Lsaid)))
    (l_Lsaid : K.lookup f_Lsaid = some ⟨oc_Lsaid, od_Lsaid, .func (PySem.W.fnOf "_law_said" "_law_said" (defArgs s_Lsaid) (defBody s_Lsaid) (defScope s_Lsaid) .none kV_Lsaid dc_Lsaid pm_Lsaid an_Lsaid cd_Lsaid ct_Lsaid), sl_Lsaid⟩) (c_Lsaid : PySem.W.codeIn K cd_Lsaid "_law_said" = true) (k_Lsaid : PySem.W.keepIn K (.ref f_Lsaid) = true)
    (a_Lgood : PySem.W.nsIn K mainGlobals "_law_good" = some (some (.ref f_Lgood)))
    (l_Lgood : K.lookup f_Lgood = some ⟨oc_Lgood, od_Lgood, .func (PySem.W.fnOf "_law_good" "_law_good" (defArgs s_Lgood) (defBody s_Lgood) (defScope s_Lgood) .none kV_Lgood dc_Lgood pm_Lgood an_Lgood cd_Lgood ct_Lgood), sl_Lgood⟩) (c_Lgood : PySem.W.codeIn K cd_Lgood "_law_good" = true) (k_Lgood : PySem.W.keepIn K (.ref f_Lgood) = true)
    (a_Lsign_of : PySem.W.nsIn K mainGlobals "_law_sign_of" = some (some (.ref f_Lsign_of)))
    (l_Lsign_of : K.lookup f_Lsign_of = some ⟨oc_Lsign_of, od_Lsign_of, .func (PySem.W.fnOf "_law_sign_of" "_law_sign_of" (defArgs s_Lsign_of) (defBody s_Lsign_of) (defScope s_Lsign_of) .none kV_Lsign_of dc_Lsign_of pm_Lsign_of an_Lsign_of cd_Lsign_of ct_Lsign_of), sl_Lsign_of⟩) (c_Lsign_of : PySem.W.codeIn K cd_Lsign_of "_law_sign_of" = true) (k_Lsign_of : PySem.W.keepIn K (.ref f_Lsign_of) = true)
    (a_Lbent : PySem.W.nsIn K mainGlobals "_law_bent" = some (some (.ref f_Lbent)))
    (l_Lbent : K.lookup f_Lbent = some ⟨oc_Lbent, od_Lbent, .func (PySem.W.fnOf "_law_bent" "_law_bent" (defArgs s_Lbent) (defBody s_Lbent) (defScope s_Lbent) .none kV_Lbent dc_Lbent pm_Lbent an_Lbent cd_Lbent ct_Lbent), sl_Lbent⟩) (c_Lbent : PySem.W.codeIn K cd_Lbent "_law_bent" = true) (k_Lbent : PySem.W.keepIn K (.ref f_Lbent) = true)
    (a_law : PySem.W.nsIn K mainGlobals "law" = some (some (.ref f_law)))
    (l_law : K.lookup f_law = some ⟨oc_law, od_law, .func (PySem.W.fnOf "law" "law" (defArgs s_law) (defBody s_law) (defScope s_law) .none kV_law dc_law pm_law an_law cd_law ct_law), sl_law⟩) (c_law : PySem.W.codeIn K cd_law "law" = true) (k_law : PySem.W.keepIn K (.ref f_law) = true)
    (z_len : PySem.W.nsIn K mainGlobals "len" = some none)
    (z_range : PySem.W.nsIn K mainGlobals "range" = some none)
    (z_isinstance : PySem.W.nsIn K mainGlobals "isinstance" = some none)
    (z_all : PySem.W.nsIn K mainGlobals "all" = some none)
    (z_int : PySem.W.nsIn K mainGlobals "int" = some none)
    (z_bool : PySem.W.nsIn K mainGlobals "bool" = some none)
    (z_str : PySem.W.nsIn K mainGlobals "str" = some none)
    (z_list : PySem.W.nsIn K mainGlobals "list" = some none)
    (z_tuple : PySem.W.nsIn K mainGlobals "tuple" = some none)
    (z_ValueError : PySem.W.nsIn K mainGlobals "ValueError" = some none)
    (x_WALL : PySem.W.nsIn K mainGlobals "WALL" = some (some (.str (Str.ofString "#") t_WALL)))
    (x_SIGNS : PySem.W.nsIn K mainGlobals "SIGNS" = some (some (.str (Str.ofString ".#+~|") t_SIGNS)))
    (x_MOST_ROWS : PySem.W.nsIn K mainGlobals "MOST_ROWS" = some (some (.int 10 t_MOST_ROWS)))
    (x_MOST_SIGNS : PySem.W.nsIn K mainGlobals "MOST_SIGNS" = some (some (.int 10 t_MOST_SIGNS)))
    : ∃ fd : FuncData, (∀ (s : Shared) (v : Value), BindsTo s fd ⟨[v], []⟩ [("_law_script", v)]) ∧ ∀ base : Heap, K.In base → base.Ns mainGlobals mg → FnOk l.prog w K mg base CX0 7 fa fd ["_law_script"] (spLaw K) := by
  obtain rfl : f_law = fa := by
    have e := hfa.symm.trans (PySem.W.mg_of X G a_law)
    cases e
    rfl
  have T : Txt K mg ⟨f_is_whole, f_is_among, f_check_row, f_check_floor, f_Floor_init, f_Lat, f_Lmixed, f_Llines, f_Lword, f_Lsaid, f_Lgood, f_Lsign_of, f_Lbent, f_law, C_Floor, C_BadFloor, C_FloorError, C_BadKind, C_BadCell, C_BadCharge, C_BadStops, C_BadWay, C_Empty, C_NoCarrier, C_NoTask, C_Meets, C_Taken, C_Busy, C_NoReserve, C_Closed, C_Jammed⟩ := by
    constructor
    · exact PySem.W.mg_none_of X G z_len
    · exact PySem.W.mg_none_of X G z_range
    · exact PySem.W.mg_none_of X G z_isinstance
    · exact PySem.W.mg_none_of X G z_all
    · exact PySem.W.mg_none_of X G z_int
    · exact PySem.W.mg_none_of X G z_bool
    · exact PySem.W.mg_none_of X G z_str
    · exact PySem.W.mg_none_of X G z_list
    · exact PySem.W.mg_none_of X G z_tuple
    · exact PySem.W.mg_none_of X G z_ValueError
    · exact ⟨_, PySem.W.mg_of X G x_WALL, ⟨_, rfl⟩⟩
    · exact ⟨_, PySem.W.mg_of X G x_SIGNS, ⟨_, rfl⟩⟩
    · exact ⟨_, PySem.W.mg_of X G x_MOST_ROWS, ⟨_, rfl⟩⟩
    · exact ⟨_, PySem.W.mg_of X G x_MOST_SIGNS, ⟨_, rfl⟩⟩
    · exact PySem.W.mg_of X G a_is_whole
    · exact k_is_whole
    · exact PySem.W.mg_of X G a_is_among
    · exact k_is_among
    · exact PySem.W.mg_of X G a_check_row
    · exact k_check_row
    · exact PySem.W.mg_of X G a_check_floor
    · exact k_check_floor
    · exact PySem.W.mg_of X G a_Lat
    · exact k_Lat
    · exact PySem.W.mg_of X G a_Lmixed
    · exact k_Lmixed
    · exact PySem.W.mg_of X G a_Llines
    · exact k_Llines
    · exact PySem.W.mg_of X G a_Lword
    · exact k_Lword
    · exact PySem.W.mg_of X G a_Lsaid
    · exact k_Lsaid
    · exact PySem.W.mg_of X G a_Lgood
    · exact k_Lgood
    · exact PySem.W.mg_of X G a_Lsign_of
    · exact k_Lsign_of
    · exact PySem.W.mg_of X G a_Lbent
    · exact k_Lbent
    · exact PySem.W.mg_of X G a_law
    · exact k_law
    · exact PySem.W.mg_of X G aC_Floor
    · exact ⟨pg_Floor, hd_Floor, po_Floor, sa_Floor⟩
    · exact n_Floor_wide
    · exact n_Floor_high
    · exact n_Floor_lines
    · exact n_Floor_signs
    · exact ⟨mk_Floor, a_Floor_init, i_Floor_init, kc_Floor⟩
    · exact PySem.W.mg_of X G aC_BadFloor
    · exact ⟨er_BadFloor⟩
    · exact PySem.W.mg_of X G aC_FloorError
    · exact PySem.W.mg_of X G aC_BadKind
    · exact PySem.W.mg_of X G aC_BadCell
    · exact PySem.W.mg_of X G aC_BadCharge
    · exact PySem.W.mg_of X G aC_BadStops
    · exact PySem.W.mg_of X G aC_BadWay
    · exact PySem.W.mg_of X G aC_Empty
    · exact PySem.W.mg_of X G aC_NoCarrier
    · exact PySem.W.mg_of X G aC_NoTask
    · exact PySem.W.mg_of X G aC_Meets
    · exact PySem.W.mg_of X G aC_Taken
    · exact PySem.W.mg_of X G aC_Busy
    · exact PySem.W.mg_of X G aC_NoReserve
    · exact PySem.W.mg_of X G aC_Closed
    · exact PySem.W.mg_of X G aC_Jammed
    · exact xm_BadFloor_FloorError
    · exact is_BadFloor_BadFloor
    · exact is_BadFloor_BadKind
    · exact is_BadFloor_BadCell
    · exact is_BadFloor_BadCharge
    · exact is_BadFloor_BadStops
    · exact is_BadFloor_BadWay
    · exact is_BadFloor_Empty
    · exact is_BadFloor_NoCarrier
    · exact is_BadFloor_NoTask
    · exact is_BadFloor_Meets
    · exact is_BadFloor_Taken
    · exact is_BadFloor_Busy
    · exact is_BadFloor_NoReserve
    · exact is_BadFloor_Closed
    · exact is_BadFloor_Jammed
    · exact is_BadFloor_FloorError
    · exact is_BadFloor_ValueError
    · exact ga_BadFloor
    · exact gn_BadFloor
    · exact bx_BadFloor
    · exact cl_BadFloor
    · exact ca_BadFloor
    · exact cm_BadFloor
    · exact cgx
    · exact ctx
  have F_is_whole := fun_mk (st := s_is_whole) l_is_whole c_is_whole k_is_whole
  have B_is_whole := F_is_whole.binds (ps := ["thing"]) fun _ _ _ _ _ _ us hl => match us, hl with | [_], _ => rfl
  have F_is_among := fun_mk (st := s_is_among) l_is_among c_is_among k_is_among
  have B_is_among := F_is_among.binds (ps := ["thing", "least", "most"]) fun _ _ _ _ _ _ us hl => match us, hl with | [_, _, _], _ => rfl
  have F_check_row := fun_mk (st := s_check_row) l_check_row c_check_row k_check_row
  have B_check_row := F_check_row.binds (ps := ["line", "wide"]) fun _ _ _ _ _ _ us hl => match us, hl with | [_, _], _ => rfl
  have F_check_floor := fun_mk (st := s_check_floor) l_check_floor c_check_floor k_check_floor
  have B_check_floor := F_check_floor.binds (ps := ["lines"]) fun _ _ _ _ _ _ us hl => match us, hl with | [_], _ => rfl
  have F_Floor_init := fun_mk (st := s_Floor_init) l_Floor_init c_Floor_init k_Floor_init
  have B_Floor_init := F_Floor_init.binds (ps := ["self", "lines"]) fun _ _ _ _ _ _ us hl => match us, hl with | [_, _], _ => rfl
  have F_Lat := fun_mk (st := s_Lat) l_Lat c_Lat k_Lat
  have B_Lat := F_Lat.binds (ps := ["_law_script", "_law_k"]) fun _ _ _ _ _ _ us hl => match us, hl with | [_, _], _ => rfl
  have F_Lmixed := fun_mk (st := s_Lmixed) l_Lmixed c_Lmixed k_Lmixed
  have B_Lmixed := F_Lmixed.binds (ps := ["_law_cell", "_law_k"]) fun _ _ _ _ _ _ us hl => match us, hl with | [_, _], _ => rfl
  have F_Llines := fun_mk (st := s_Llines) l_Llines c_Llines k_Llines
  have B_Llines := F_Llines.binds (ps := ["_law_script", "_law_k", "_law_most"]) fun _ _ _ _ _ _ us hl => match us, hl with | [_, _, _], _ => rfl
  have F_Lword := fun_mk (st := s_Lword) l_Lword c_Lword k_Lword
  have B_Lword := F_Lword.binds (ps := ["_law_error"]) fun _ _ _ _ _ _ us hl => match us, hl with | [_], _ => rfl
  have F_Lsaid := fun_mk (st := s_Lsaid) l_Lsaid c_Lsaid k_Lsaid
  have B_Lsaid := F_Lsaid.binds (ps := ["_law_lines_here"]) fun _ _ _ _ _ _ us hl => match us, hl with | [_], _ => rfl
  have F_Lgood := fun_mk (st := s_Lgood) l_Lgood c_Lgood k_Lgood
  have B_Lgood := F_Lgood.binds (ps := ["_law_lines_here"]) fun _ _ _ _ _ _ us hl => match us, hl with | [_], _ => rfl
  have F_Lsign_of := fun_mk (st := s_Lsign_of) l_Lsign_of c_Lsign_of k_Lsign_of
  have B_Lsign_of := F_Lsign_of.binds (ps := ["_law_cell"]) fun _ _ _ _ _ _ us hl => match us, hl with | [_], _ => rfl
  have F_Lbent := fun_mk (st := s_Lbent) l_Lbent c_Lbent k_Lbent
  have B_Lbent := F_Lbent.binds (ps := ["_law_lines_here", "_law_cell"]) fun _ _ _ _ _ _ us hl => match us, hl with | [_, _], _ => rfl
  have F_law := fun_mk (st := s_law) l_law c_law k_law
  refine ⟨PySem.W.fnOf "law" "law" (defArgs s_law) (defBody s_law) (defScope s_law) .none kV_law dc_law pm_law an_law cd_law ct_law, ?bd, fun base _ _ => ?fn⟩
  case fn =>
    have G_is_whole : FnOk l.prog w K mg base CX0 1 f_is_whole _ ["thing"] (spWhole K) := ok_is_whole (ad := ⟨f_is_whole, f_is_among, f_check_row, f_check_floor, f_Floor_init, f_Lat, f_Lmixed, f_Llines, f_Lword, f_Lsaid, f_Lgood, f_Lsign_of, f_Lbent, f_law, C_Floor, C_BadFloor, C_FloorError, C_BadKind, C_BadCell, C_BadCharge, C_BadStops, C_BadWay, C_Empty, C_NoCarrier, C_NoTask, C_Meets, C_Taken, C_Busy, C_NoReserve, C_Closed, C_Jammed⟩) F_is_whole T
    have G_is_among : FnOk l.prog w K mg base CX0 2 f_is_among _ ["thing", "least", "most"] (spAmong K) := ok_is_among (ad := ⟨f_is_whole, f_is_among, f_check_row, f_check_floor, f_Floor_init, f_Lat, f_Lmixed, f_Llines, f_Lword, f_Lsaid, f_Lgood, f_Lsign_of, f_Lbent, f_law, C_Floor, C_BadFloor, C_FloorError, C_BadKind, C_BadCell, C_BadCharge, C_BadStops, C_BadWay, C_Empty, C_NoCarrier, C_NoTask, C_Meets, C_Taken, C_Busy, C_NoReserve, C_Closed, C_Jammed⟩) F_is_among T B_is_whole G_is_whole
    have G_check_row : FnOk l.prog w K mg base (CXE l.prog w) 1 f_check_row _ ["line", "wide"] (spRowR (⟨f_is_whole, f_is_among, f_check_row, f_check_floor, f_Floor_init, f_Lat, f_Lmixed, f_Llines, f_Lword, f_Lsaid, f_Lgood, f_Lsign_of, f_Lbent, f_law, C_Floor, C_BadFloor, C_FloorError, C_BadKind, C_BadCell, C_BadCharge, C_BadStops, C_BadWay, C_Empty, C_NoCarrier, C_NoTask, C_Meets, C_Taken, C_Busy, C_NoReserve, C_Closed, C_Jammed⟩ : Ad) K) := ok_check_row (ad := ⟨f_is_whole, f_is_among, f_check_row, f_check_floor, f_Floor_init, f_Lat, f_Lmixed, f_Llines, f_Lword, f_Lsaid, f_Lgood, f_Lsign_of, f_Lbent, f_law, C_Floor, C_BadFloor, C_FloorError, C_BadKind, C_BadCell, C_BadCharge, C_BadStops, C_BadWay, C_Empty, C_NoCarrier, C_NoTask, C_Meets, C_Taken, C_Busy, C_NoReserve, C_Closed, C_Jammed⟩) F_check_row T
    have G_check_floor : FnOk l.prog w K mg base (CXE l.prog w) 3 f_check_floor _ ["lines"] (spCheckR (⟨f_is_whole, f_is_among, f_check_row, f_check_floor, f_Floor_init, f_Lat, f_Lmixed, f_Llines, f_Lword, f_Lsaid, f_Lgood, f_Lsign_of, f_Lbent, f_law, C_Floor, C_BadFloor, C_FloorError, C_BadKind, C_BadCell, C_BadCharge, C_BadStops, C_BadWay, C_Empty, C_NoCarrier, C_NoTask, C_Meets, C_Taken, C_Busy, C_NoReserve, C_Closed, C_Jammed⟩ : Ad) K) := ok_check_floor (ad := ⟨f_is_whole, f_is_among, f_check_row, f_check_floor, f_Floor_init, f_Lat, f_Lmixed, f_Llines, f_Lword, f_Lsaid, f_Lgood, f_Lsign_of, f_Lbent, f_law, C_Floor, C_BadFloor, C_FloorError, C_BadKind, C_BadCell, C_BadCharge, C_BadStops, C_BadWay, C_Empty, C_NoCarrier, C_NoTask, C_Meets, C_Taken, C_Busy, C_NoReserve, C_Closed, C_Jammed⟩) F_check_floor T B_is_among G_is_among B_check_row G_check_row
    have G_Floor_init : FnOk l.prog w K mg base (CXE l.prog w) 4 f_Floor_init _ ["self", "lines"] (spInitR (⟨f_is_whole, f_is_among, f_check_row, f_check_floor, f_Floor_init, f_Lat, f_Lmixed, f_Llines, f_Lword, f_Lsaid, f_Lgood, f_Lsign_of, f_Lbent, f_law, C_Floor, C_BadFloor, C_FloorError, C_BadKind, C_BadCell, C_BadCharge, C_BadStops, C_BadWay, C_Empty, C_NoCarrier, C_NoTask, C_Meets, C_Taken, C_Busy, C_NoReserve, C_Closed, C_Jammed⟩ : Ad) K) := ok_Floor_init (ad := ⟨f_is_whole, f_is_among, f_check_row, f_check_floor, f_Floor_init, f_Lat, f_Lmixed, f_Llines, f_Lword, f_Lsaid, f_Lgood, f_Lsign_of, f_Lbent, f_law, C_Floor, C_BadFloor, C_FloorError, C_BadKind, C_BadCell, C_BadCharge, C_BadStops, C_BadWay, C_Empty, C_NoCarrier, C_NoTask, C_Meets, C_Taken, C_Busy, C_NoReserve, C_Closed, C_Jammed⟩) F_Floor_init T B_check_floor G_check_floor
    have G_Lat : FnOk l.prog w K mg base CX0 1 f_Lat _ ["_law_script", "_law_k"] (spAt K) := ok_Lat (ad := ⟨f_is_whole, f_is_among, f_check_row, f_check_floor, f_Floor_init, f_Lat, f_Lmixed, f_Llines, f_Lword, f_Lsaid, f_Lgood, f_Lsign_of, f_Lbent, f_law, C_Floor, C_BadFloor, C_FloorError, C_BadKind, C_BadCell, C_BadCharge, C_BadStops, C_BadWay, C_Empty, C_NoCarrier, C_NoTask, C_Meets, C_Taken, C_Busy, C_NoReserve, C_Closed, C_Jammed⟩) F_Lat T
    have G_Lmixed : FnOk l.prog w K mg base CX0 1 f_Lmixed _ ["_law_cell", "_law_k"] (spMixed) := ok_Lmixed (ad := ⟨f_is_whole, f_is_among, f_check_row, f_check_floor, f_Floor_init, f_Lat, f_Lmixed, f_Llines, f_Lword, f_Lsaid, f_Lgood, f_Lsign_of, f_Lbent, f_law, C_Floor, C_BadFloor, C_FloorError, C_BadKind, C_BadCell, C_BadCharge, C_BadStops, C_BadWay, C_Empty, C_NoCarrier, C_NoTask, C_Meets, C_Taken, C_Busy, C_NoReserve, C_Closed, C_Jammed⟩) F_Lmixed T
    have G_Llines : FnOk l.prog w K mg base CX0 2 f_Llines _ ["_law_script", "_law_k", "_law_most"] (spLines K) := ok_Llines (ad := ⟨f_is_whole, f_is_among, f_check_row, f_check_floor, f_Floor_init, f_Lat, f_Lmixed, f_Llines, f_Lword, f_Lsaid, f_Lgood, f_Lsign_of, f_Lbent, f_law, C_Floor, C_BadFloor, C_FloorError, C_BadKind, C_BadCell, C_BadCharge, C_BadStops, C_BadWay, C_Empty, C_NoCarrier, C_NoTask, C_Meets, C_Taken, C_Busy, C_NoReserve, C_Closed, C_Jammed⟩) F_Llines T B_Lat G_Lat B_Lmixed G_Lmixed
    have GM_Lword : ∀ {ea C : Addr} {dx : Option Addr} {ob : Obj}, MkO C dx ob → FnOkM l.prog w K mg base ea ob 1 f_Lword _ ["_law_error"] (spWord (⟨f_is_whole, f_is_among, f_check_row, f_check_floor, f_Floor_init, f_Lat, f_Lmixed, f_Llines, f_Lword, f_Lsaid, f_Lgood, f_Lsign_of, f_Lbent, f_law, C_Floor, C_BadFloor, C_FloorError, C_BadKind, C_BadCell, C_BadCharge, C_BadStops, C_BadWay, C_Empty, C_NoCarrier, C_NoTask, C_Meets, C_Taken, C_Busy, C_NoReserve, C_Closed, C_Jammed⟩ : Ad) K ea C dx) := fun mk => okM_Lword (ad := ⟨f_is_whole, f_is_among, f_check_row, f_check_floor, f_Floor_init, f_Lat, f_Lmixed, f_Llines, f_Lword, f_Lsaid, f_Lgood, f_Lsign_of, f_Lbent, f_law, C_Floor, C_BadFloor, C_FloorError, C_BadKind, C_BadCell, C_BadCharge, C_BadStops, C_BadWay, C_Empty, C_NoCarrier, C_NoTask, C_Meets, C_Taken, C_Busy, C_NoReserve, C_Closed, C_Jammed⟩) F_Lword T mk
    have G_Lsaid : FnOk l.prog w K mg base CX0 6 f_Lsaid _ ["_law_lines_here"] (spSaid K) := ok_Lsaid (ad := ⟨f_is_whole, f_is_among, f_check_row, f_check_floor, f_Floor_init, f_Lat, f_Lmixed, f_Llines, f_Lword, f_Lsaid, f_Lgood, f_Lsign_of, f_Lbent, f_law, C_Floor, C_BadFloor, C_FloorError, C_BadKind, C_BadCell, C_BadCharge, C_BadStops, C_BadWay, C_Empty, C_NoCarrier, C_NoTask, C_Meets, C_Taken, C_Busy, C_NoReserve, C_Closed, C_Jammed⟩) F_Lsaid T B_Floor_init G_Floor_init B_Lword GM_Lword
    have G_Lgood : FnOk l.prog w K mg base CX0 1 f_Lgood _ ["_law_lines_here"] (spGood K) := ok_Lgood (ad := ⟨f_is_whole, f_is_among, f_check_row, f_check_floor, f_Floor_init, f_Lat, f_Lmixed, f_Llines, f_Lword, f_Lsaid, f_Lgood, f_Lsign_of, f_Lbent, f_law, C_Floor, C_BadFloor, C_FloorError, C_BadKind, C_BadCell, C_BadCharge, C_BadStops, C_BadWay, C_Empty, C_NoCarrier, C_NoTask, C_Meets, C_Taken, C_Busy, C_NoReserve, C_Closed, C_Jammed⟩) F_Lgood T
    have G_Lsign_of : FnOk l.prog w K mg base CX0 1 f_Lsign_of _ ["_law_cell"] (spSignOf) := ok_Lsign_of (ad := ⟨f_is_whole, f_is_among, f_check_row, f_check_floor, f_Floor_init, f_Lat, f_Lmixed, f_Llines, f_Lword, f_Lsaid, f_Lgood, f_Lsign_of, f_Lbent, f_law, C_Floor, C_BadFloor, C_FloorError, C_BadKind, C_BadCell, C_BadCharge, C_BadStops, C_BadWay, C_Empty, C_NoCarrier, C_NoTask, C_Meets, C_Taken, C_Busy, C_NoReserve, C_Closed, C_Jammed⟩) F_Lsign_of T
    have G_Lbent : FnOk l.prog w K mg base CX0 2 f_Lbent _ ["_law_lines_here", "_law_cell"] (spBent K) := ok_Lbent (ad := ⟨f_is_whole, f_is_among, f_check_row, f_check_floor, f_Floor_init, f_Lat, f_Lmixed, f_Llines, f_Lword, f_Lsaid, f_Lgood, f_Lsign_of, f_Lbent, f_law, C_Floor, C_BadFloor, C_FloorError, C_BadKind, C_BadCell, C_BadCharge, C_BadStops, C_BadWay, C_Empty, C_NoCarrier, C_NoTask, C_Meets, C_Taken, C_Busy, C_NoReserve, C_Closed, C_Jammed⟩) F_Lbent T B_Lsign_of G_Lsign_of
    exact ok_law F_law T B_Llines G_Llines B_Lat G_Lat B_Lbent G_Lbent B_Lsaid G_Lsaid B_Lgood G_Lgood
  case bd => exact fun s v => .of_eq rfl
theorem walk {l : PySem.W.OpenLaw} {q : Program} {loose : List Str} {XP : (Str → Option Value) → Heap → Prop} {YP : World → Heap → Prop} {d : DefRec} {K : Params → PySem.W.Frag} (hn : l.most = some 63) (hdf : d.params.defaults = [])
    (hY : ∀ (w : World) (h : Heap), YP w h → (K w.params).In h)
    (F : ∀ (w : World) (mg : Str → Option Value) (fa : Addr) (h : Heap), (K w.params).In h → h.Ns mainGlobals mg → mg d.name = some (.ref fa) →
      ∃ fd : FuncData, (∀ (s : Shared) (u : Value), BindsTo s fd ⟨[u], []⟩ [("_law_script", u)]) ∧ ∀ base : Heap, (K w.params).In base → base.Ns mainGlobals mg → FnOk l.prog w (K w.params) mg base CX0 7 fa fd ["_law_script"] (spLaw (K w.params))) :
    PySem.W.WalkO q loose XP YP l.row.toRowW d [] (fun f vs => PySem.call f vs) :=
  L2.walk_of (n := 63) (k := 7) (x := "_law_script") (CX := fun _ => CX0) (sp := fun w => spLaw (K w.params)) hn (by decide) hdf ⟨rfl, by decide, by decide⟩ hY F (fun _ _ a ns hl _ hS => ⟨a, ns, rfl, hS, hl, fun _ => rfl⟩) fun _ _ _ _ _ z => z
end Pf
open PySem PySem.W PyProof.Rows
set_option maxRecDepth 100000 in
set_option maxHeartbeats 0 in
theorem PySem.Challenge.cw_floorways_k05_floors_refused_holds : PySem.Challenge.rw_floorways_k05_floors_refused.Holds := by
  w_on; o_law; k_head; (case hw => w_witness2)
  k_fill
  refine Pf.walk (l := PySem.Challenge.rw_floorways_k05_floors_refused) rfl rfl (fun w h Y => PySem.W.kIn_of Y) ?F
  case F =>
    intro w mg fa h KX G hmg
    refine' Pf.all_mk KX G hmg ?aC_Floor ?pg_Floor ?hd_Floor ?po_Floor ?sa_Floor ?kc_Floor ?mk_Floor ?n_Floor_wide ?n_Floor_high ?n_Floor_lines ?n_Floor_signs ?aC_BadFloor ?er_BadFloor ?aC_FloorError ?aC_BadKind ?aC_BadCell ?aC_BadCharge ?aC_BadStops ?aC_BadWay ?aC_Empty ?aC_NoCarrier ?aC_NoTask ?aC_Meets ?aC_Taken ?aC_Busy ?aC_NoReserve ?aC_Closed ?aC_Jammed ?xm_BadFloor_FloorError ?is_BadFloor_BadFloor ?is_BadFloor_BadKind ?is_BadFloor_BadCell ?is_BadFloor_BadCharge ?is_BadFloor_BadStops ?is_BadFloor_BadWay ?is_BadFloor_Empty ?is_BadFloor_NoCarrier ?is_BadFloor_NoTask ?is_BadFloor_Meets ?is_BadFloor_Taken ?is_BadFloor_Busy ?is_BadFloor_NoReserve ?is_BadFloor_Closed ?is_BadFloor_Jammed ?is_BadFloor_FloorError ?is_BadFloor_ValueError ?ga_BadFloor ?gn_BadFloor ?bx_BadFloor ?cl_BadFloor ?ca_BadFloor ?cm_BadFloor ?cgx ?ctx ?a_is_whole ?l_is_whole ?c_is_whole ?k_is_whole ?a_is_among ?l_is_among ?c_is_among ?k_is_among ?a_check_row ?l_check_row ?c_check_row ?k_check_row ?a_check_floor ?l_check_floor ?c_check_floor ?k_check_floor ?a_Floor_init ?i_Floor_init ?l_Floor_init ?c_Floor_init ?k_Floor_init ?a_Lat ?l_Lat ?c_Lat ?k_Lat ?a_Lmixed ?l_Lmixed ?c_Lmixed ?k_Lmixed ?a_Llines ?l_Llines ?c_Llines ?k_Llines ?a_Lword ?l_Lword ?c_Lword ?k_Lword ?a_Lsaid ?l_Lsaid ?c_Lsaid ?k_Lsaid ?a_Lgood ?l_Lgood ?c_Lgood ?k_Lgood ?a_Lsign_of ?l_Lsign_of ?c_Lsign_of ?k_Lsign_of ?a_Lbent ?l_Lbent ?c_Lbent ?k_Lbent ?a_law ?l_law ?c_law ?k_law ?z_len ?z_range ?z_isinstance ?z_all ?z_int ?z_bool ?z_str ?z_list ?z_tuple ?z_ValueError ?x_WALL ?x_SIGNS ?x_MOST_ROWS ?x_MOST_SIGNS
    (case aC_Floor => k_is)
    (case pg_Floor => k_is)
    (case hd_Floor => k_is)
    (case po_Floor => k_is)
    (case sa_Floor => k_is)
    (case kc_Floor => k_is)
    (case mk_Floor => k_is)
    (case n_Floor_wide => k_is)
    (case n_Floor_high => k_is)
    (case n_Floor_lines => k_is)
    (case n_Floor_signs => k_is)
    (case aC_BadFloor => k_is)
    (case er_BadFloor => first | k_is | kit_is | kernel_rfl)
    (case aC_FloorError => k_is)
    (case aC_BadKind => k_is)
    (case aC_BadCell => k_is)
    (case aC_BadCharge => k_is)
    (case aC_BadStops => k_is)
    (case aC_BadWay => k_is)
    (case aC_Empty => k_is)
    (case aC_NoCarrier => k_is)
    (case aC_NoTask => k_is)
    (case aC_Meets => k_is)
    (case aC_Taken => k_is)
    (case aC_Busy => k_is)
    (case aC_NoReserve => k_is)
    (case aC_Closed => k_is)
    (case aC_Jammed => k_is)
    (case xm_BadFloor_FloorError => first | k_is | kit_is | kernel_rfl)
    (case is_BadFloor_BadFloor => first | k_is | kit_is | kernel_rfl)
    (case is_BadFloor_BadKind => first | k_is | kit_is | kernel_rfl)
    (case is_BadFloor_BadCell => first | k_is | kit_is | kernel_rfl)
    (case is_BadFloor_BadCharge => first | k_is | kit_is | kernel_rfl)
    (case is_BadFloor_BadStops => first | k_is | kit_is | kernel_rfl)
    (case is_BadFloor_BadWay => first | k_is | kit_is | kernel_rfl)
    (case is_BadFloor_Empty => first | k_is | kit_is | kernel_rfl)
    (case is_BadFloor_NoCarrier => first | k_is | kit_is | kernel_rfl)
    (case is_BadFloor_NoTask => first | k_is | kit_is | kernel_rfl)
    (case is_BadFloor_Meets => first | k_is | kit_is | kernel_rfl)
    (case is_BadFloor_Taken => first | k_is | kit_is | kernel_rfl)
    (case is_BadFloor_Busy => first | k_is | kit_is | kernel_rfl)
    (case is_BadFloor_NoReserve => first | k_is | kit_is | kernel_rfl)
    (case is_BadFloor_Closed => first | k_is | kit_is | kernel_rfl)
    (case is_BadFloor_Jammed => first | k_is | kit_is | kernel_rfl)
    (case is_BadFloor_FloorError => first | k_is | kit_is | kernel_rfl)
    (case is_BadFloor_ValueError => first | k_is | kit_is | kernel_rfl)
    (case ga_BadFloor => k_is)
    (case gn_BadFloor => k_is)
    (case bx_BadFloor => k_is)
    (case cl_BadFloor => first | k_is | kit_is | kernel_rfl)
    (case ca_BadFloor => k_is)
    (case cm_BadFloor => k_is)
    (case cgx => k_is)
    (case ctx => k_is)
    (case a_is_whole => k_is)
    (case l_is_whole => k_is)
    (case c_is_whole => k_is)
    (case k_is_whole => k_is)
    (case a_is_among => k_is)
    (case l_is_among => k_is)
    (case c_is_among => k_is)
    (case k_is_among => k_is)
    (case a_check_row => k_is)
    (case l_check_row => k_is)
    (case c_check_row => k_is)
    (case k_check_row => k_is)
    (case a_check_floor => k_is)
    (case l_check_floor => k_is)
    (case c_check_floor => k_is)
    (case k_check_floor => k_is)
    (case a_Floor_init => k_is)
    (case i_Floor_init => k_is)
    (case l_Floor_init => k_is)
    (case c_Floor_init => k_is)
    (case k_Floor_init => k_is)
    (case a_Lat => k_is)
    (case l_Lat => k_is)
    (case c_Lat => k_is)
    (case k_Lat => k_is)
    (case a_Lmixed => k_is)
    (case l_Lmixed => k_is)
    (case c_Lmixed => k_is)
    (case k_Lmixed => k_is)
    (case a_Llines => k_is)
    (case l_Llines => k_is)
    (case c_Llines => k_is)
    (case k_Llines => k_is)
    (case a_Lword => k_is)
    (case l_Lword => k_is)
    (case c_Lword => k_is)
    (case k_Lword => k_is)
    (case a_Lsaid => k_is)
    (case l_Lsaid => k_is)
    (case c_Lsaid => k_is)
    (case k_Lsaid => k_is)
    (case a_Lgood => k_is)
    (case l_Lgood => k_is)
    (case c_Lgood => k_is)
    (case k_Lgood => k_is)
    (case a_Lsign_of => k_is)
    (case l_Lsign_of => k_is)
    (case c_Lsign_of => k_is)
    (case k_Lsign_of => k_is)
    (case a_Lbent => k_is)
    (case l_Lbent => k_is)
    (case c_Lbent => k_is)
    (case k_Lbent => k_is)
    (case a_law => k_is)
    (case l_law => k_is)
    (case c_law => k_is)
    (case k_law => k_is)
    (case z_len => k_is)
    (case z_range => k_is)
    (case z_isinstance => k_is)
    (case z_all => k_is)
    (case z_int => k_is)
    (case z_bool => k_is)
    (case z_str => k_is)
    (case z_list => k_is)
    (case z_tuple => k_is)
    (case z_ValueError => k_is)
    (case x_WALL => k_is)
    (case x_SIGNS => k_is)
    (case x_MOST_ROWS => k_is)
    (case x_MOST_SIGNS => k_is)
